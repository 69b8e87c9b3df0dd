/- Programs that are no greater than those that Compile makes: fit.hasLoc, fit.within, fit.Prog. Of those that are: yes. -/
import Derived.Test.YtioiabfheeglgaaGreatDoorJ13EvA
import Derived.Test.YtioiabfheeglgaaGreatDoorJ37RComp
import Derived.Test.YtioiabfheeglgaaGreatDoorJ10StepG
import Derived.Test.YtioiabfheeglgaaGreatDoorJ36RaH
import Derived.Test.YtioiabfheeglgaaGreatDoorJ28REvU
namespace Go.Proofs.YtioiabfheeglgaaGreatDoor
open Go.RowKit

def hasLB (k : Int) : Bool := k == 1 || (k == 2 || k == 4)
/-- All locations of a thread are below m. -/
def locsOk (m : Nat) (L : List InsT) : Prop := ∀ x ∈ L, hasLB x.k = true → 0 ≤ x.l ∧ x.l < m
/-- Programs as great as Compile makes them. -/
structure Fits (m : Nat) (LL : List (List InsT)) : Prop where
 thr : LL.length ≤ 4
 loc : m ≤ 4
 ins : ∀ L ∈ LL, L.length ≤ 10 ∧ locsOk m L
 all : (LL.map List.length).sum ≤ 24
theorem sum_take (L : List Nat) (n : Nat) : (L.take n).sum ≤ L.sum := by
 have h : (L.take n ++ L.drop n).sum = L.sum := by rw [List.take_append_drop]
 rw [List.sum_append] at h
 omega
theorem sum_next {LL : List (List InsT)} {n : Nat} {L : List InsT} (h : LL[n]? = some L) : ((LL.map List.length).take (n + 1)).sum = ((LL.map List.length).take n).sum + L.length := by
 rw [List.take_add_one, List.getElem?_map, h]
 simp
end Go.Proofs.YtioiabfheeglgaaGreatDoor

namespace Go.Proofs.YtioiabfheeglgaaGreatDoor
open Go.RowKit

abbrev TV : TypeId := 38
/-- All blocks stand but those of cells of rows of events. -/
structure Kv (w w' : World) : Prop where
 size : w.heap.size ≤ w'.heap.size
 block : ∀ (g : Nat) cs T fr, w.heap[g]? = some (.cells cs T fr) → T ≠ TV → w'.heap[g]? = w.heap[g]?
theorem Kv.refl (w : World) : Kv w w := ⟨Nat.le_refl _, fun _ _ _ _ _ _ => rfl⟩
theorem Kv.on {w w' : World} (h : On w w') : Kv w w' := ⟨h.size, fun g _ _ _ e _ => h.block g (lt_of_block e)⟩
theorem Kv.trans {a b c : World} (h : Kv a b) (k : Kv b c) : Kv a c :=
 ⟨Nat.le_trans h.size k.size, fun g cs T fr e h1 => (k.block g cs T fr ((h.block g cs T fr e h1).trans e) h1).trans (h.block g cs T fr e h1)⟩
theorem Kv.grown {w w' : World} {base k n : Nat} {v : Value} {xs : List Value} (ho : w.ownsRow base TV k v n xs) (hg : w.grownBy w' v.ownBlock) : Kv w w' := by
 refine ⟨hg.size, fun g cs T fr e h1 => hg.block g (lt_of_block e) (fun eq => ?_)⟩
 rcases ho.2 with ⟨hv, _⟩ | ⟨g2, cap, cur, hv, hb, hh, _⟩
 ·
  rw [hv] at eq; cases eq
 ·
  rw [hv] at eq
  simp only [Value.ownBlock, Option.some.injEq] at eq
  subst eq
  rw [e] at hh
  simp only [Option.some.injEq, Obj.cells.injEq] at hh
  exact h1 hh.2.1
theorem RdT.kv {α : Type} {T : TypeId} {C : α → List Value} {k : Nat} {w w' : World} {v : Value} {L : List α} (h : RdT T C k w v L) (o : Kv w w') (h1 : T ≠ TV) : RdT T C k w' v L := by
 obtain ⟨⟨a, c, hv, hc, hm, hr⟩, ht⟩ := h
 have key : ∀ (g off n c : Nat), v = .slice (some ⟨g, off, none⟩) n c → 0 < L.length → w'.heap[g]? = w.heap[g]? := fun g off n c e h0 => by
  obtain ⟨cs, fr, e2⟩ := ht g off n c e h0
  exact o.block g cs T fr e2 h1
 refine ⟨⟨a, c, hv, hc, hm, fun hl => ?_⟩, fun g off n c e h0 => ?_⟩
 ·
  obtain ⟨g, off, ha, hg, hcell⟩ := hr hl
  refine ⟨g, off, ha, Nat.lt_of_lt_of_le hg o.size, fun i x j u hi hj => ?_⟩
  rw [← hcell i x j u hi hj]
  exact World.cell?_of_block (key g off _ c (by rw [hv, ha]) hl)
 ·
  obtain ⟨cs, fr, e2⟩ := ht g off n c e h0
  exact ⟨cs, fr, (key g off n c e h0).trans e2⟩
theorem tK1 : (2 : TypeId) ≠ TV := by decide
theorem tK2 : (58 : TypeId) ≠ TV := by decide
theorem elI64 : ElT 24 2 1 8 (.int .i64 0) := ⟨Tryz.underlying24, by kernel_rfl, rfl, by decide⟩
theorem infoV : (Tryz.prog.info? TV).map (fun i => (i.zero, i.size, i.bytes)) = some (some (.slice none 0 0), 1, 24) := by kernel_rfl
/-- v is a row of the call's own of rows of events. -/
def OwE (w : World) (b : Nat) (v : Value) (LL : List (List EvT)) : Prop :=
 ∃ vs : List Value, vs.length = LL.length ∧ w.ownsRow b TV 1 v LL.length (vs.flatMap oneC) ∧ ∀ (i : Nat) (u : Value) (L : List EvT), vs[i]? = some u → LL[i]? = some L → RdT 58 evC 6 w u L
theorem OwE.on {w w' : World} {b : Nat} {v : Value} {LL : List (List EvT)} (h : OwE w b v LL) (o : On w w') : OwE w' b v LL := by
 obtain ⟨vs, h1, h2, h3⟩ := h
 exact ⟨vs, h1, own_on h2 o, fun i u L a b => (h3 i u L a b).on o⟩
theorem OwE.nil (w : World) (b : Nat) : OwE w b (.slice none 0 0) [] := ⟨[], rfl, World.ownsRow_nil _ _ _ _, fun i u L a _ => by simp at a⟩
theorem OwE.slice {w : World} {b : Nat} {v : Value} {LL : List (List EvT)} (h : OwE w b v LL) : ∃ a c, v = .slice a LL.length c := by
 obtain ⟨vs, _, h2, _⟩ := h
 exact own_slice h2
theorem OwE.low {w : World} {b : Nat} {v : Value} {LL : List (List EvT)} (h : OwE w b v LL) : ∀ g, v.ownBlock = some g → b ≤ g ∧ g < w.heap.size := by
 obtain ⟨vs, _, h2, _⟩ := h
 intro g e
 exact h2.lt g e
theorem OwE.rd {w : World} {b : Nat} {v : Value} {LL : List (List EvT)} (h : OwE w b v LL) : RdE2 w v LL := by
 obtain ⟨vs, h1, h2, h3⟩ := h
 rw [← h1] at h2
 exact ⟨vs, h1, RdT.own oneC_len h2, h3⟩
/-- What stands: all but the row's own block. -/
def Fw (v v' : Value) (w w' : World) : Prop := ∀ N, Fx N v v' w w'
theorem Fw.trans {v v' v'' : Value} {a b c : World} (h : Fw v v' a b) (k : Fw v' v'' b c) : Fw v v'' a c := fun N => (h N).trans (k N)
theorem Fw.on {w w' : World} (v : Value) (h : On w w') : Fw v v w w' := fun N => Fx.on N v h
theorem Fw.bk {v v' : Value} {w w' : World} {M : Nat} {cs : Array Value} (h : Bk w M cs) (f : Fw v v' w w') (hv : v.ownBlock ≠ some M) : Bk w' M cs := h.fx (f (M + 1)) (by omega) hv
theorem On.fw {w0 w w' : World} {v v' : Value} (h : On w0 w) (f : Fw v v' w w') (hv : ∀ g, v.ownBlock = some g → w0.heap.size ≤ g) : On w0 w' := h.fx (f w0.heap.size) (Nat.le_refl _) hv
theorem Fw.append {w w' : World} {v v' : Value} (hg : w.grownBy w' v.ownBlock) (hl : v'.ownBlock = v.ownBlock ∨ v'.ownBlock = some w.heap.size) : Fw v v' w w' := fun N =>
 ⟨hg.os, hg.tape, hg.output, hg.size, fun g hg1 _ hv => hg.block g hg1 (fun e => hv e.symm), by
  rcases hl with h | h
  ·
   exact Or.inl h
  ·
   exact Or.inr fun g e => by rw [h] at e; have := Option.some.inj e; omega⟩
/-- The unfoldings of a thread whose reads are of these values, put behind others. -/
def locN (L : List InsT) (l : LocT) : Nat := ((nextP L l).getD insZ).l.toNat
def thP (L : List InsT) (t : Int) (V : Nat → List Int) (most : Nat) : Nat → List Int → List (List EvT) → List (List EvT)
 | 0, _, out => out
 | n + 1, rs, out => if most < out.length then out else
   if (unfP L t rs).2.2 then (V (locN L (unfP L t rs).2.1)).foldl (fun o y => thP L t V most n (rs ++ [y]) o) out else out ++ [(unfP L t rs).1]
/-- One read more: one event more. -/
theorem unfN_grow (y : Int) : ∀ (n : Nat) (L : List InsT) (t : Int) (l : LocT) (i : Nat) (rs : List Int), (unfN n L t l i rs).2.2 = true → (unfN n L t l i rs).1.length + 1 ≤ (unfN n L t l i (rs ++ [y])).1.length
 | 0, L, t, l, i, rs, h => by rw [unfN] at h; cases h
 | n + 1, L, t, l, i, rs, h => by
  cases hx : nextP L l with
  | none => rw [unf_none hx] at h; cases h
  | some x =>
   cases hv : valP x rs with
   | none =>
    rw [unf_more hx hv]
    unfold valP at hv
    split at hv
    ·
     rename_i hr
     cases rs with
     | nil =>
      have hv2 : valP x ([] ++ [y]) = some (y, []) := by unfold valP; rw [if_pos hr]; rfl
      rw [unf_some hx hv2]
      simp
     | cons a r => cases hv
    ·
     cases hv
   | some p =>
    obtain ⟨v, r⟩ := p
    rw [unf_some hx hv] at h
    have hv2 : valP x (rs ++ [y]) = some (v, r ++ [y]) := by
     unfold valP at hv ⊢
     split at hv
     ·
      rename_i hr
      rw [if_pos hr]
      cases rs with
      | nil => cases hv
      | cons a r2 =>
       simp only [Option.some.injEq, Prod.mk.injEq] at hv
       obtain ⟨rfl, rfl⟩ := hv
       rfl
     ·
      rename_i hr
      rw [if_neg hr]
      simp only [Option.some.injEq, Prod.mk.injEq] at hv
      obtain ⟨rfl, rfl⟩ := hv
      rfl
    rw [unf_some hx hv, unf_some hx hv2]
    have := unfN_grow y n L t (afterP L l v) (i + 1) r h
    simp only [List.length_cons]
    omega
/-- Where there is more, a thread reads next. -/
theorem unfN_next : ∀ (n : Nat) (L : List InsT) (t : Int) (l : LocT) (i : Nat) (rs : List Int), (unfN n L t l i rs).2.2 = true → ∃ x, nextP L (unfN n L t l i rs).2.1 = some x ∧ readB x.k = true
 | 0, L, t, l, i, rs, h => by rw [unfN] at h; cases h
 | n + 1, L, t, l, i, rs, h => by
  cases hx : nextP L l with
  | none => rw [unf_none hx] at h; cases h
  | some x =>
   cases hv : valP x rs with
   | none =>
    rw [unf_more hx hv]
    refine ⟨x, hx, ?_⟩
    unfold valP at hv
    split at hv
    ·
     assumption
    ·
     cases hv
   | some p =>
    obtain ⟨v, r⟩ := p
    rw [unf_some hx hv] at h ⊢
    exact unfN_next n L t (afterP L l v) (i + 1) r h
theorem unf_fuel (L : List InsT) (t : Int) (rs : List Int) : (unfP L t rs).1.length ≤ L.length := by
 have := unf_len (L.length + 1) L t (startP L) 0 rs (start_on L)
 unfold unfP
 omega
def ThIs (LL : List (List InsT)) (locs t b most : Nat) (V : Nat → List Int) (w0 : World) (vp : Value) (n : Nat) : Prop := ∀ (rs : List Int) (ar : Option Addr) (cr : Nat) (xs : Array Value) (out : List (List EvT)) (v : Value) (w : World), (threadP LL t).length + 1 ≤ n + (unfP (threadP LL t) t rs).1.length → rs.length + n ≤ 1000 → On w0 w → RdT 2 intC 1 w (.slice ar rs.length cr) rs → (∃ x0 x1 x2 x3, xs = #[x0, x1, x2, x3]) → (∀ l, l < locs → ∃ x, xs[l]? = some x ∧ RdT 2 intC 1 w x (V l)) → OwE w b v out → b ≤ w.heap.size →
  Calls Tryz.prog 14 #[vp, .int .i64 t, .slice ar rs.length cr, .agg xs, v, .int .i64 most] w fun e w' => ∃ v', e = .returned v' ∧ OwE w' b v' (thP (threadP LL t) t V most n rs out) ∧ Fw v v' w w' ∧ Kv w w'
set_option maxHeartbeats 2000000 in
set_option maxRecDepth 8000 in
theorem th_succ (LL : List (List InsT)) (locs t b most : Nat) (V : Nat → List Int) (w0 : World) (vp : Value) (n : Nat) (hp : ProgRd w0 vp LL) (hf : ∀ L ∈ LL, fineL L) (hlo : locs ≤ 4) (hok : locsOk locs (threadP LL t)) (hb0 : w0.heap.size ≤ b) (hm : most ≤ 100000) (hV : ∀ l, (V l).length ≤ 1000000) (hL : (threadP LL t).length ≤ 1000) (hI : ThIs LL locs t b most V w0 vp n) : ThIs LL locs t b most V w0 vp (n + 1) := by
 intro rs ar cr xs out v w hfu hrl hK0 hrs hxs hvals hO hb
 obtain ⟨i0, hi0, hz0, hz1, hz2⟩ := info_parts infoV
 have hU := fun W (k : On w W) => runfold_is LL t rs ar cr vp W (hp.on (hK0.trans k)) (hrs.1.on k) (by omega) hf
 have hN := fun l W (k : On w W) => rnext_is LL t l vp W (hp.on (hK0.trans k)) hf
 obtain ⟨x0, x1, x2, x3, rfl⟩ := hxs
 obtain ⟨a1, m1, c1, a2, m2, c2, a3, c3, rfl, hrd⟩ := hp
 clear hrd
 generalize hm3 : LL.length = m3 at *
 clear hm3
 have hvlow := hO.low
 obtain ⟨ao, co, rfl⟩ := hO.slice
 obtain ⟨ON, hON⟩ : ∃ ON, ON = out.length := ⟨_, rfl⟩
 obtain ⟨L, hLL⟩ : ∃ L, L = threadP LL t := ⟨_, rfl⟩
 rw [← hLL] at hU hN hok hL hfu ⊢
 obtain ⟨TT, hTT⟩ : ∃ TT, TT = thP L t V most (n + 1) rs out := ⟨_, rfl⟩
 rw [← hTT]
 have hT0 : TT = if most < out.length then out else if (unfP L t rs).2.2 then (V (locN L (unfP L t rs).2.1)).foldl (fun o y => thP L t V most n (rs ++ [y]) o) out else out ++ [(unfP L t rs).1] := hTT
 have HO : Hid (OwE w b (.slice ao out.length co) out) := hO
 have HRS : Hid (RdT 2 intC 1 w (.slice ar rs.length cr) rs) := hrs
 have HVA : Hid (∀ l, l < locs → ∃ x, #[x0, x1, x2, x3][l]? = some x ∧ RdT 2 intC 1 w x (V l)) := hvals
 obtain ⟨W1, hW1⟩ : ∃ W1, W1 = w.alloc (.cells #[.slice a1 m1 c1, .slice a2 m2 c2, .slice a3 m3 c3] 27) := ⟨_, rfl⟩
 have P1 : Bk W1 w.heap.size #[.slice a1 m1 c1, .slice a2 m2 c2, .slice a3 m3 c3] := by rw [hW1]; exact Bk.new w _ _
 have K1 : On w W1 := by rw [hW1]; exact (On.refl w).alloc _
 have hs1 : W1.heap.size = w.heap.size + 1 := by rw [hW1, World.size_alloc]
 obtain ⟨W2, hW2⟩ : ∃ W2, W2 = W1.alloc (.cells #[x0, x1, x2, x3] 52) := ⟨_, rfl⟩
 have BP : Bk W2 w.heap.size #[.slice a1 m1 c1, .slice a2 m2 c2, .slice a3 m3 c3] := by rw [hW2]; exact P1.alloc _
 have BX : Bk W2 (w.heap.size + 1) #[x0, x1, x2, x3] := by rw [hW2, ← hs1]; exact Bk.new W1 _ _
 have K2 : On w W2 := by rw [hW2]; exact K1.alloc _
 have hs2 : W2.heap.size = w.heap.size + 2 := by rw [hW2, World.size_alloc, hs1]
 have HK2 : Hid (On w W2) := K2
 clear hTT K1 P1 hO hrs hvals
 rw [← hON] at HO hT0 ⊢
 have HON : Hid (ON = out.length) := hON
 clear hON
 by_cases hmo : most < ON
 ·
  rw [if_pos hmo] at hT0
  have HE : Hid (∃ v', Value.slice ao ON co = v' ∧ OwE W2 b v' TT ∧ Fw (.slice ao ON co) v' w W2 ∧ Kv w W2) := ⟨_, rfl, (by rw [hT0]; exact HO.out.on K2), Fw.on _ K2, Kv.on K2⟩
  clear hT0
  have dm : decide ((most : Int) < (ON : Int)) = true := by simpa using hmo
  clear hU hN hI hok hK0
  go_enter Tryz.func14, Tryz.ntmps14
  go_upto_region 1 with fail
  rw [← hW1, ← hW2]
  clear hW1 hW2
  go_wp2
  go_ret
  obtain ⟨v', h1, h2⟩ := HE.out
  exact ⟨v', by rw [← h1]; rfl, h2⟩
 ·
  rw [if_neg hmo] at hT0
  have dm : decide ((most : Int) < (ON : Int)) = false := by simpa using (by omega : ¬ most < ON)
  have hUX := hU W2 K2
  have hlen := unf_fuel L t rs
  have hgrw := fun y => unfN_grow y (L.length + 1) L t (startP L) 0 rs
  have hnx := unfN_next (L.length + 1) L t (startP L) 0 rs
  have HFU : Hid (∀ y, (unfP L t rs).2.2 = true → L.length + 1 ≤ n + (unfP L t (rs ++ [y])).1.length) := fun y h => by
   have := hgrw y h
   show L.length + 1 ≤ n + (unfN (L.length + 1) L t (startP L) 0 (rs ++ [y])).1.length
   have h2 : L.length + 1 ≤ n + 1 + (unfN (L.length + 1) L t (startP L) 0 rs).1.length := hfu
   omega
  have HNX : Hid ((unfP L t rs).2.2 = true → ∃ x, nextP L (unfP L t rs).2.1 = some x ∧ readB x.k = true) := hnx
  clear hgrw hnx hfu
  generalize unfP L t rs = UU at *
  obtain ⟨UE, ul, um⟩ := UU
  simp only at hUX HFU HNX hT0 hlen
  have HIH : Hid (∀ (y : Int) (vI v10 : Value) (OI : List (List EvT)) (W : World) (n10 : Nat), um = true → Hid (n10 = (rs ++ [y]).length) → On w0 W → Kv w W → OwE W b vI OI → b ≤ W.heap.size → (∃ base, W.ownsRow base 2 1 v10 n10 ((rs ++ [y]).flatMap intC)) →
    Calls Tryz.prog 14 #[.agg #[.slice a1 m1 c1, .slice a2 m2 c2, .slice a3 m3 c3], .int .i64 t, v10, .agg #[x0, x1, x2, x3], vI, .int .i64 most] W fun e w' => ∃ v', e = .returned v' ∧ OwE w' b v' (thP L t V most n (rs ++ [y]) OI) ∧ Fw vI v' W w' ∧ Kv W w') := fun y vI v10 OI W n10 hum hn k0 kk hOI hbW h10 => by
   obtain ⟨base, h10⟩ := h10
   rw [hn.out] at h10
   have hr : RdT 2 intC 1 W v10 (rs ++ [y]) := RdT.own intC_len h10
   obtain ⟨a10, c10, rfl⟩ := own_slice h10
   have := hI (rs ++ [y]) a10 c10 #[x0, x1, x2, x3] OI vI W (by rw [← hLL]; exact HFU.out y hum) (by simp; omega) k0 hr ⟨x0, x1, x2, x3, rfl⟩ (fun l hl => by
    obtain ⟨x, e1, e2⟩ := HVA.out l hl
    exact ⟨x, e1, e2.kv kk tK1⟩) hOI hbW
   rw [← hLL] at this
   exact this
  have hNX := fun W (k : On w W) => hN ul W k
  obtain ⟨pc, r0, r1, r2, r3⟩ := ul
  unfold locV at hUX hNX
  have HUX := hUX
  clear hUX hU hN hI
  have y0 := BP.at (i := 0) rfl
  have y1 := BP.at (i := 1) rfl
  have y2 := BP.at (i := 2) rfl
  have yl := BP.lt
  cases um with
  | false =>
   rw [if_neg (by decide)] at hT0
   have HT0 : Hid (TT = out ++ [UE]) := hT0
   obtain ⟨vs, hvs1, hvs2, hvs3⟩ := HO.out
   have HVS : Hid (vs.length = out.length) := hvs1
   have HVE : Hid (∀ (i : Nat) (u : Value) (L : List EvT), vs[i]? = some u → out[i]? = some L → RdT 58 evC 6 w u L) := hvs3
   rw [← HON.out] at hvs2
   have hONb : ON ≤ 100000 := by omega
   clear hT0 hvs1 hvs3 HIH hNX HFU HNX
   go_enter Tryz.func14, Tryz.ntmps14
   go_upto_region 1 with fail
   rw [← hW1, ← hW2]
   clear hW1 hW2
   go_wp2_with fail
   refine HUX.mono ?_
   rintro _ w3 ⟨a, c, rfl, hU1, k3⟩
   have K3 : On w w3 := HK2.out.trans k3
   have hown3 := own_on hvs2 K3
   have HU1 : Hid (RdT 58 evC 6 w3 (.slice a UE.length c) UE) := RdT.own evC_len hU1
   have HK3 : Hid (On w w3) := K3
   obtain ⟨UN, hUN⟩ : ∃ UN, UN = UE.length := ⟨_, rfl⟩
   have HUN : Hid (UN = UE.length) := hUN
   rw [← hUN] at HU1 ⊢
   clear hU1 hUN k3 y0 y1 y2 yl HUX hlen
   go_wp2_with (at_builtin; refine wpList_append_own_at _ rfl _ _ 53 rfl b TV i0 (.slice none 0 0) 1 24 Tryz.underlying53 hi0 hz0 hz1 hz2 rfl (by decide) _ _ _ rfl ((hown3.alloc _).alloc _) ⟨w3.heap.size + 1, 0, none⟩ 1 1 [.slice a UN c] rfl rfl ?c1 ?c2 ?c3 ?c4 ?c5 ?_)
   case c1 =>
    intro j u hu
    have e := cell_one_new (w3.alloc (.cells #[.int .i64 pc, .int .i64 r0, .int .i64 r1, .int .i64 r2, .int .i64 r3] 73)) (.slice a UN c) TV j u hu
    rw [World.size_alloc] at e
    exact e
   case c2 =>
    intro u hu
    simp only [List.mem_cons, List.not_mem_nil, or_false] at hu
    subst hu
    rfl
   case c3 => unfold maxLen; omega
   case c4 => omega
   case c5 => simp only [World.size_alloc]; have := HK3.out.size; omega
   intro v' w5 hown5 hg5 _ hl5
   have kA := ((On.refl w3).alloc (.cells #[.int .i64 pc, .int .i64 r0, .int .i64 r1, .int .i64 r2, .int .i64 r3] 73)).alloc (.cells #[.slice a UN c] TV)
   have kv : Kv w3 w5 := (Kv.on kA).trans (Kv.grown ((hown3.alloc _).alloc _) hg5)
   have HPP : Hid (∃ v'', v' = v'' ∧ OwE w5 b v'' TT ∧ Fw (.slice ao ON co) v'' w w5 ∧ Kv w w5) := by
    refine ⟨v', rfl, ?_, (Fw.on _ (HK3.out.trans kA)).trans (Fw.append hg5 (by simp only [World.size_alloc]; exact hl5)), (Kv.on HK3.out).trans kv⟩
    rw [HT0.out]
    refine ⟨vs ++ [.slice a UN c], by simp [HVS.out], ?_, fun i u E h1 h2 => ?_⟩
    ·
     rw [List.length_append, List.flatMap_append, ← HON.out]
     exact hown5
    ·
     rcases Nat.lt_or_ge i vs.length with hlt | hge
     ·
      rw [List.getElem?_append_left hlt] at h1
      rw [List.getElem?_append_left (by rw [← HVS.out]; exact hlt)] at h2
      exact ((HVE.out i u E h1 h2).on HK3.out).kv kv tK2
     ·
      rw [List.getElem?_append_right hge] at h1
      rw [List.getElem?_append_right (by rw [← HVS.out]; exact hge)] at h2
      rw [← HVS.out] at h2
      cases hz : i - vs.length with
      | zero =>
       rw [hz] at h1 h2
       simp only [List.getElem?_cons_zero, Option.some.injEq] at h1 h2
       subst h1 h2
       exact HU1.out.kv kv tK2
      | succ q => rw [hz] at h1; simp at h1
   clear hown5 hg5 hl5 kv kA hown3 hvs2
   go_wp2
   go_ret
   obtain ⟨v'', e, h⟩ := HPP.out
   exact ⟨v'', by rw [← e]; rfl, h⟩
  | true =>
   rw [if_pos rfl] at hT0
   obtain ⟨x, hx1, hx2⟩ := HNX.out rfl
   have hxl : 0 ≤ x.l ∧ x.l < locs := by
    have hmem : x ∈ L := by
     unfold nextP at hx1
     split at hx1
     ·
      split at hx1
      ·
       rename_i y hy
       split at hx1
       ·
        rw [← Option.some.inj hx1]; exact List.mem_of_getElem? hy
       ·
        cases hx1
      ·
       cases hx1
     ·
      cases hx1
    exact hok x hmem (by
     unfold readB at hx2
     unfold hasLB
     simp only [Bool.or_eq_true, beq_iff_eq] at hx2 ⊢
     omega)
   have hlN : locN L ⟨pc, r0, r1, r2, r3⟩ = x.l.toNat := by unfold locN; rw [hx1]; rfl
   rw [hlN] at hT0
   obtain ⟨xl, hxe⟩ : ∃ xl : Nat, x.l = (xl : Int) := ⟨x.l.toNat, by omega⟩
   obtain ⟨VV, hVV⟩ : ∃ VV, VV = V x.l.toNat := ⟨_, rfl⟩
   have hVl := hV x.l.toNat
   obtain ⟨vx, hvx, hvr⟩ := HVA.out x.l.toNat (by omega)
   rw [← hVV] at hT0 hVl hvr
   have hxn : x.l.toNat = xl := by omega
   rw [hxn] at hvx
   obtain ⟨ax, cx, rfl, _, _⟩ := hvr.1.slice
   have HVR : Hid (RdT 2 intC 1 w (.slice ax VV.length cx) VV) := hvr
   have HT0 : Hid (TT = VV.foldl (fun o y => thP L t V most n (rs ++ [y]) o) out) := hT0
   have hN2 := fun W (k : On w W) => hNX W k
   rw [hx1] at hN2
   have hns : nextV (some x) = .tuple #[insV x, .bool true] := rfl
   rw [hns] at hN2
   unfold insV at hN2
   rw [hxe] at hN2
   obtain ⟨M, hM⟩ : ∃ M, M = VV.length := ⟨_, rfl⟩
   have HM : Hid (M = VV.length) := hM
   rw [← hM] at hvx hVl
   have xl4 : xl < 4 := by omega
   have xl4i : (xl : Int) < 4 := by omega
   clear hT0 hvr hVV hlN hNX HNX hns hx1 hx2 hok hM hxl hxn hlen HVA
   go_enter Tryz.func14, Tryz.ntmps14
   go_upto_region 1 with fail
   rw [← hW1, ← hW2]
   clear hW1 hW2
   go_wp2_with fail
   refine HUX.mono ?_
   rintro _ w3 ⟨a, c, rfl, hU1, k3⟩
   have K3 : On w w3 := HK2.out.trans k3
   obtain ⟨W4, hW4⟩ : ∃ W4, W4 = w3.alloc (.cells #[.int .i64 pc, .int .i64 r0, .int .i64 r1, .int .i64 r2, .int .i64 r3] 73) := ⟨_, rfl⟩
   have k34 : On w3 W4 := by rw [hW4]; exact (On.refl w3).alloc _
   have hn4 := hN2 W4 (K3.trans k34)
   have BP4 := (BP.on k3).on k34
   have BX4 := (BX.on k3).on k34
   have y0 := BP4.at (i := 0) rfl
   have y1 := BP4.at (i := 1) rfl
   have y2 := BP4.at (i := 2) rfl
   have yl := BP4.lt
   have HK4 : Hid (On w W4) := K3.trans k34
   have BL : Bk W4 w3.heap.size #[.int .i64 pc, .int .i64 r0, .int .i64 r1, .int .i64 r2, .int .i64 r3] := by rw [hW4]; exact Bk.new w3 _ _
   have b0 := BL.at (i := 0) rfl
   have b1 := BL.at (i := 1) rfl
   have b2 := BL.at (i := 2) rfl
   have b3 := BL.at (i := 3) rfl
   have b4 := BL.at (i := 4) rfl
   have bl := BL.lt
   clear hU1 k3 HUX BP BX k34 hN2 K3
   go_upto_region 6 with fail
   rw [← hW4]
   clear hW4
   go_wp2_with fail
   refine hn4.mono ?_
   rintro _ w5 ⟨rfl, k5⟩
   obtain ⟨W6, hW6⟩ : ∃ W6, W6 = w5.alloc (.cells #[.int .i64 x.k, .int .i64 x.r, .int .i64 xl, .int .i64 x.a.r, .int .i64 x.a.v, .int .i64 x.o, .int .i64 x.b.r, .int .i64 x.b.v, .int .i64 x.n] 67) := ⟨_, rfl⟩
   have k56 : On w5 W6 := by rw [hW6]; exact (On.refl w5).alloc _
   have BI : Bk W6 w5.heap.size #[.int .i64 x.k, .int .i64 x.r, .int .i64 xl, .int .i64 x.a.r, .int .i64 x.a.v, .int .i64 x.o, .int .i64 x.b.r, .int .i64 x.b.v, .int .i64 x.n] := by rw [hW6]; exact Bk.new w5 _ _
   have HK6 : Hid (On w W6) := HK4.out.trans (k5.trans k56)
   have BP6 := (BP4.on k5).on k56
   have BX6 := (BX4.on k5).on k56
   have hs6 : w.heap.size + 2 ≤ W6.heap.size := by have h1 := BX6.lt; omega
   clear y0 y1 y2 yl b0 b1 b2 b3 b4 bl BL BP4 BX4 k5 hn4 HK4
   go_upto_region 7 with fail
   rw [← hW6]
   clear hW6
   have b2 := BI.at (i := 2) rfl
   have bl := BI.lt
   have xx := BX6.at (i := xl) hvx
   have xxl := BX6.lt
   have HO6 : Hid (OwE W6 b (.slice ao ON co) out) := HO.out.on HK6.out
   have HT1 : Hid (TT = (VV.drop 0).foldl (fun o y => thP L t V most n (rs ++ [y]) o) out) := HT0.out
   go_wp2
   clear b2 bl xx xxl BI k56 HT0
   go_loopg [4, 19] M (fun gg s4 s19 wr => ∃ (k : Nat) (vI : Value) (OI : List (List EvT)), k ≤ M ∧ gg = M - k ∧ s19 = .int .i64 k ∧ s4 = vI ∧ Hid (OwE wr b vI OI) ∧ Hid (TT = (VV.drop k).foldl (fun o y => thP L t V most n (rs ++ [y]) o) OI) ∧ Hid (Fw (.slice ao ON co) vI W6 wr) ∧ Hid (Kv w wr) ∧ Bk wr w.heap.size #[.slice a1 m1 c1, .slice a2 m2 c2, .slice a3 m3 c3] ∧ Bk wr (w.heap.size + 1) #[x0, x1, x2, x3])
   case atStart => exact ⟨0, _, out, Nat.zero_le _, rfl, rfl, rfl, HO6, HT1, Fw.on _ (On.refl W6), Kv.on HK6.out, BP6, BX6⟩
   case round =>
    clear HO6 HT1 BP6 BX6
    obtain ⟨k, vI, OI, hk, hg, rfl, rfl, HO, HT, HFW, HKV, BP, BX⟩ := hrel
    rcases Nat.lt_or_ge k M with hlt | hge
    ·
     obtain ⟨y, hy⟩ : ∃ y, VV[k]? = some y := ⟨_, List.getElem?_eq_getElem (by rw [← HM.out]; exact hlt)⟩
     have hvr := HVR.out.kv HKV.out tK1
     have hvt := hvr.2
     obtain ⟨gx, ox, rfl, hgx, hcell⟩ := hvr.1.at hy
     have q0 : wr.cell? ⟨gx, ox + k, none⟩ = some (.int .i64 y) := by have := hcell 0 _ rfl; simpa using this
     have HVT : Hid (∃ cs fr, wr.heap[gx]? = some (.cells cs 2 fr)) := hvt gx ox VV.length cx rfl (by rw [← HM.out]; omega)
     have hTd := HT.out
     rw [drop_at hy, List.foldl_cons] at hTd
     have HTD : Hid (TT = (VV.drop (k + 1)).foldl (fun o y => thP L t V most n (rs ++ [y]) o) (thP L t V most n (rs ++ [y]) OI)) := hTd
     have HRS9 : Hid (Rd intC 1 wr.drew (.slice ar rs.length cr) rs) := ((HRS.out.kv HKV.out tK1).on (On.drew (On.refl _))).1
     have hov : IntKind.i64.wrap ((k : Int) + 1) = ((k + 1 : Nat) : Int) := by rw [wrap_small]; omega; omega; omega
     have hkb : (k : Int) < (M : Int) := by omega
     have HV4 : Hid (∀ Q, Q < W6.heap.size → w.heap.size ≤ Q → u4.ownBlock ≠ some Q) := fun Q hQ hQ2 e2 => by
      rcases (HFW.out 0).next with h | h
      ·
       have := (hvlow Q (by rw [← HON.out]; exact h ▸ e2)).2; omega
      ·
       have := h Q e2; omega
     have HCALL : Hid (∀ (v10 : Value) (W : World) (n10 : Nat), On wr W → Hid (n10 = (rs ++ [y]).length) → W.ownsRow wr.heap.size 2 1 v10 n10 ((rs ++ [y]).flatMap intC) →
       Calls Tryz.prog 14 #[.agg #[.slice a1 m1 c1, .slice a2 m2 c2, .slice a3 m3 c3], .int .i64 t, v10, .agg #[x0, x1, x2, x3], u4, .int .i64 most] W fun e w' => ∃ v', e = .returned v' ∧ OwE w' b v' (thP L t V most n (rs ++ [y]) OI) ∧ Fw u4 v' W w' ∧ Kv W w') := fun v10 W n10 kw hn10 h10 => by
      refine HIH.out y u4 v10 OI W n10 (by first | rfl | trivial) hn10 ?_ (HKV.out.trans (Kv.on kw)) (HO.out.on kw) (Nat.le_trans hb (Nat.le_trans HKV.out.size kw.size)) ⟨_, h10⟩
      exact ((hK0.trans HK6.out).fw HFW.out (fun g hg => Nat.le_trans hb0 ((hvlow g (by rw [← HON.out]; exact hg)).1))).trans kw
     have HBB : Hid (∀ W v' w', (Bk W w.heap.size #[.slice a1 m1 c1, .slice a2 m2 c2, .slice a3 m3 c3] ∧ Bk W (w.heap.size + 1) #[x0, x1, x2, x3] ∧ (W.cell? ⟨gx, ox + k, none⟩ = some (Value.int .i64 y) ∧ gx < W.heap.size ∧ ∃ cs fr, W.heap[gx]? = some (.cells cs 2 fr))) → Fw u4 v' W w' → Kv W w' → (Bk w' w.heap.size #[.slice a1 m1 c1, .slice a2 m2 c2, .slice a3 m3 c3] ∧ Bk w' (w.heap.size + 1) #[x0, x1, x2, x3] ∧ (w'.cell? ⟨gx, ox + k, none⟩ = some (Value.int .i64 y) ∧ gx < w'.heap.size ∧ ∃ cs fr, w'.heap[gx]? = some (.cells cs 2 fr)))) := fun W v' w' h hf hkv => by
      refine ⟨Fw.bk h.1 hf (HV4.out _ (by omega) (by omega)), Fw.bk h.2.1 hf (HV4.out _ (by omega) (by omega)), ?_, Nat.lt_of_lt_of_le h.2.2.2.1 hkv.size, ?_⟩
      all_goals obtain ⟨cs, fr, hcs⟩ := h.2.2.2.2
      all_goals first
       | exact (World.cell?_of_block (a := ⟨gx, ox + k, none⟩) (hkv.block gx cs _ fr hcs tK1)).trans h.2.2.1
       | exact ⟨cs, fr, (hkv.block gx cs _ fr hcs tK1).trans hcs⟩
     clear hTd hvr hvt hcell HIH HO hy HT HRS HVR HM
     go_upto_region 11 with fail
     have S0 : Bk wr.drew w.heap.size #[.slice a1 m1 c1, .slice a2 m2 c2, .slice a3 m3 c3] ∧ Bk wr.drew (w.heap.size + 1) #[x0, x1, x2, x3] ∧ (wr.drew.cell? ⟨gx, ox + k, none⟩ = some (Value.int .i64 y) ∧ gx < wr.drew.heap.size ∧ ∃ cs fr, wr.drew.heap[gx]? = some (.cells cs 2 fr)) := ⟨BP, BX, q0, hgx, HVT.out⟩
     have hon : ∀ W W', (Bk W w.heap.size #[.slice a1 m1 c1, .slice a2 m2 c2, .slice a3 m3 c3] ∧ Bk W (w.heap.size + 1) #[x0, x1, x2, x3] ∧ (W.cell? ⟨gx, ox + k, none⟩ = some (Value.int .i64 y) ∧ gx < W.heap.size ∧ ∃ cs fr, W.heap[gx]? = some (.cells cs 2 fr))) → On W W' → (Bk W' w.heap.size #[.slice a1 m1 c1, .slice a2 m2 c2, .slice a3 m3 c3] ∧ Bk W' (w.heap.size + 1) #[x0, x1, x2, x3] ∧ (W'.cell? ⟨gx, ox + k, none⟩ = some (Value.int .i64 y) ∧ gx < W'.heap.size ∧ ∃ cs fr, W'.heap[gx]? = some (.cells cs 2 fr))) := fun W W' h kq => ⟨h.1.on kq, h.2.1.on kq, (kq.cell (p := ⟨gx, ox + k, none⟩) h.2.2.2.1).trans h.2.2.1, Nat.lt_of_lt_of_le h.2.2.2.1 kq.size, by obtain ⟨cs, fr, e⟩ := h.2.2.2.2; exact ⟨cs, fr, (kq.block gx h.2.2.2.1).trans e⟩⟩
     refine region_fz (fun W => Bk W w.heap.size #[.slice a1 m1 c1, .slice a2 m2 c2, .slice a3 m3 c3] ∧ Bk W (w.heap.size + 1) #[x0, x1, x2, x3] ∧ (W.cell? ⟨gx, ox + k, none⟩ = some (Value.int .i64 y) ∧ gx < W.heap.size ∧ ∃ cs fr, W.heap[gx]? = some (.cells cs 2 fr))) [] 16 (by kernel_rfl) rfl ?_
     refine fz_take 0 (v := ?_) rfl (by kernel_rfl) (by kernel_rfl) (by kernel_rfl) (by kernel_rfl) (fun _ _ _ h => h) rfl ?_ S0 ?_
     rotate_left
     ·
      intro W hW
      have y0 := hW.1.at (i := 0) rfl
      have y1 := hW.1.at (i := 1) rfl
      have y2 := hW.1.at (i := 2) rfl
      have yl := hW.1.lt
      have x0' := hW.2.1.at (i := 0) rfl
      have x1' := hW.2.1.at (i := 1) rfl
      have x2' := hW.2.1.at (i := 2) rfl
      have x3' := hW.2.1.at (i := 3) rfl
      have xl := hW.2.1.lt
      have z0 := hW.2.2.1
      have zl := hW.2.2.2.1
      go_simp
      (try with_reducible rfl)
     simp only [zpu, zsa, zsz, zss]
     refine fz_take 1 (v := ?_) rfl (by kernel_rfl) (by kernel_rfl) (by kernel_rfl) (by kernel_rfl) (fun _ _ _ h => h) rfl ?_ S0 ?_
     rotate_left
     ·
      intro W hW
      have y0 := hW.1.at (i := 0) rfl
      have y1 := hW.1.at (i := 1) rfl
      have y2 := hW.1.at (i := 2) rfl
      have yl := hW.1.lt
      have x0' := hW.2.1.at (i := 0) rfl
      have x1' := hW.2.1.at (i := 1) rfl
      have x2' := hW.2.1.at (i := 2) rfl
      have x3' := hW.2.1.at (i := 3) rfl
      have xl := hW.2.1.lt
      have z0 := hW.2.2.1
      have zl := hW.2.2.2.1
      go_simp
      (try with_reducible rfl)
     simp only [zpu, zsa, zsz, zss]
     refine fz_take 3 (v := ?_) rfl (by kernel_rfl) (by kernel_rfl) (by kernel_rfl) (by kernel_rfl) (fun _ _ _ h => h) rfl ?_ S0 ?_
     rotate_left
     ·
      intro W hW
      have y0 := hW.1.at (i := 0) rfl
      have y1 := hW.1.at (i := 1) rfl
      have y2 := hW.1.at (i := 2) rfl
      have yl := hW.1.lt
      have x0' := hW.2.1.at (i := 0) rfl
      have x1' := hW.2.1.at (i := 1) rfl
      have x2' := hW.2.1.at (i := 2) rfl
      have x3' := hW.2.1.at (i := 3) rfl
      have xl := hW.2.1.lt
      have z0 := hW.2.2.1
      have zl := hW.2.2.2.1
      go_simp
      (try with_reducible rfl)
     simp only [zpu, zsa, zsz, zss]
     refine fz_take 5 (v := ?_) rfl (by kernel_rfl) (by kernel_rfl) (by kernel_rfl) (by kernel_rfl) (fun _ _ _ h => h) rfl ?_ S0 ?_
     rotate_left
     ·
      intro W hW
      have y0 := hW.1.at (i := 0) rfl
      have y1 := hW.1.at (i := 1) rfl
      have y2 := hW.1.at (i := 2) rfl
      have yl := hW.1.lt
      have x0' := hW.2.1.at (i := 0) rfl
      have x1' := hW.2.1.at (i := 1) rfl
      have x2' := hW.2.1.at (i := 2) rfl
      have x3' := hW.2.1.at (i := 3) rfl
      have xl := hW.2.1.lt
      have z0 := hW.2.2.1
      have zl := hW.2.2.2.1
      go_simp
      (try with_reducible rfl)
     simp only [zpu, zsa, zsz, zss]
     refine fz_take 6 (v := ?_) rfl (by kernel_rfl) (by kernel_rfl) (by kernel_rfl) (by kernel_rfl) (fun _ _ _ h => h) rfl ?_ S0 ?_
     rotate_left
     ·
      intro W hW
      have y0 := hW.1.at (i := 0) rfl
      have y1 := hW.1.at (i := 1) rfl
      have y2 := hW.1.at (i := 2) rfl
      have yl := hW.1.lt
      have x0' := hW.2.1.at (i := 0) rfl
      have x1' := hW.2.1.at (i := 1) rfl
      have x2' := hW.2.1.at (i := 2) rfl
      have x3' := hW.2.1.at (i := 3) rfl
      have xl := hW.2.1.lt
      have z0 := hW.2.2.1
      have zl := hW.2.2.2.1
      go_simp
      (try with_reducible rfl)
     simp only [zpu, zsa, zsz, zss]
     refine fz_take 7 (v := ?_) rfl (by kernel_rfl) (by kernel_rfl) (by kernel_rfl) (by kernel_rfl) (fun _ _ _ h => h) rfl ?_ S0 ?_
     rotate_left
     ·
      intro W hW
      have y0 := hW.1.at (i := 0) rfl
      have y1 := hW.1.at (i := 1) rfl
      have y2 := hW.1.at (i := 2) rfl
      have yl := hW.1.lt
      have x0' := hW.2.1.at (i := 0) rfl
      have x1' := hW.2.1.at (i := 1) rfl
      have x2' := hW.2.1.at (i := 2) rfl
      have x3' := hW.2.1.at (i := 3) rfl
      have xl := hW.2.1.lt
      have z0 := hW.2.2.1
      have zl := hW.2.2.2.1
      go_simp
      (try with_reducible rfl)
     simp only [zpu, zsa, zsz, zss]
     refine fz_take 8 (v := ?_) rfl (by kernel_rfl) (by kernel_rfl) (by kernel_rfl) (by kernel_rfl) (fun _ _ _ h => h) rfl ?_ S0 ?_
     rotate_left
     ·
      intro W hW
      have y0 := hW.1.at (i := 0) rfl
      have y1 := hW.1.at (i := 1) rfl
      have y2 := hW.1.at (i := 2) rfl
      have yl := hW.1.lt
      have x0' := hW.2.1.at (i := 0) rfl
      have x1' := hW.2.1.at (i := 1) rfl
      have x2' := hW.2.1.at (i := 2) rfl
      have x3' := hW.2.1.at (i := 3) rfl
      have xl := hW.2.1.lt
      have z0 := hW.2.2.1
      have zl := hW.2.2.2.1
      go_simp
      (try with_reducible rfl)
     simp only [zpu, zsa, zsz, zss]
     refine fz_take 11 (v := ?_) rfl (by kernel_rfl) (by kernel_rfl) (by kernel_rfl) (by kernel_rfl) (fun _ _ _ h => h) rfl ?_ S0 ?_
     rotate_left
     ·
      intro W hW
      have y0 := hW.1.at (i := 0) rfl
      have y1 := hW.1.at (i := 1) rfl
      have y2 := hW.1.at (i := 2) rfl
      have yl := hW.1.lt
      have x0' := hW.2.1.at (i := 0) rfl
      have x1' := hW.2.1.at (i := 1) rfl
      have x2' := hW.2.1.at (i := 2) rfl
      have x3' := hW.2.1.at (i := 3) rfl
      have xl := hW.2.1.lt
      have z0 := hW.2.2.1
      have zl := hW.2.2.2.1
      go_simp
      (try with_reducible rfl)
     simp only [zpu, zsa, zsz, zss]
     refine fz_take 12 (v := ?_) rfl (by kernel_rfl) (by kernel_rfl) (by kernel_rfl) (by kernel_rfl) (fun _ _ _ h => h) rfl ?_ S0 ?_
     rotate_left
     ·
      intro W hW
      have y0 := hW.1.at (i := 0) rfl
      have y1 := hW.1.at (i := 1) rfl
      have y2 := hW.1.at (i := 2) rfl
      have yl := hW.1.lt
      have x0' := hW.2.1.at (i := 0) rfl
      have x1' := hW.2.1.at (i := 1) rfl
      have x2' := hW.2.1.at (i := 2) rfl
      have x3' := hW.2.1.at (i := 3) rfl
      have xl := hW.2.1.lt
      have z0 := hW.2.2.1
      have zl := hW.2.2.2.1
      go_simp
      (try with_reducible rfl)
     simp only [zpu, zsa, zsz, zss]
     refine fz_take 13 (v := ?_) rfl (by kernel_rfl) (by kernel_rfl) (by kernel_rfl) (by kernel_rfl) (fun _ _ _ h => h) rfl ?_ S0 ?_
     rotate_left
     ·
      intro W hW
      have y0 := hW.1.at (i := 0) rfl
      have y1 := hW.1.at (i := 1) rfl
      have y2 := hW.1.at (i := 2) rfl
      have yl := hW.1.lt
      have x0' := hW.2.1.at (i := 0) rfl
      have x1' := hW.2.1.at (i := 1) rfl
      have x2' := hW.2.1.at (i := 2) rfl
      have x3' := hW.2.1.at (i := 3) rfl
      have xl := hW.2.1.lt
      have z0 := hW.2.2.1
      have zl := hW.2.2.2.1
      go_simp
      (try with_reducible rfl)
     simp only [zpu, zsa, zsz, zss]
     refine fz_grow [(2, 58, none), (4, 60, none), (9, 65, none)] (fun i v W => (i = 2 → ∃ g, v = .slice (some ⟨g, 0, none⟩) 0 0 ∧ World.ownsRow W wr.heap.size 2 1 v 0 []) ∧ (i = 4 → World.ownsRow W wr.heap.size 2 1 v rs.length (rs.flatMap intC)) ∧ (i = 9 → ∃ g, v = .slice (some ⟨g, 0, none⟩) 1 1 ∧ World.ownsRow W 0 2 1 v 1 [Value.int .i64 y])) #[true, true, true, true, true, true, true, true, true, true, false, true, true, true, false, false] 3 3 (by simp) (by simp) ?_ rfl hon S0 ?_ (by kernel_rfl) (by kernel_rfl) ?_ ?_
     ·
      intro x hx
      simp only [List.mem_cons, List.not_mem_nil, or_false] at hx
      rcases hx with rfl | rfl | rfl <;> rfl
     ·
      intro i v w w' h k
      exact ⟨fun e => (fun h => by obtain ⟨g, h1, h2⟩ := h; exact ⟨g, h1, own_on h2 k⟩) (h.1 e), fun e => (fun h => own_on h k) (h.2.1 e), fun e => (fun h => by obtain ⟨g, h1, h2⟩ := h; exact ⟨g, h1, own_on h2 k⟩) (h.2.2 e)⟩
     ·
      intro i d c hi
      simp only [List.mem_cons, Prod.mk.injEq, List.not_mem_nil, or_false] at hi
      rcases hi with ⟨rfl, rfl, rfl⟩ | ⟨rfl, rfl, rfl⟩ | ⟨rfl, rfl, rfl⟩
      ·
       refine ⟨_, rfl, rfl, fun p W' l' K hr hm hS hK => ?_⟩
       have kW := hm.on
       clear hm hr
       simp only [putsA, putsD, List.foldl_cons, List.foldl_nil, Act.put, List.setIfInBounds_toArray, List.set_cons_zero, List.set_cons_succ] at hK ⊢
       go_simp
       exact hK _ _ ((On.refl W').alloc _) ⟨fun _ => ⟨_, rfl, own_empty W' _ 1 _ (show wr.drew.heap.size ≤ _ from kW.size)⟩, fun e => absurd e (by decide), fun e => absurd e (by decide)⟩
      ·
       refine ⟨_, rfl, rfl, fun p W' l' K hr hm hS hK => ?_⟩
       obtain ⟨u2, hu2, f2⟩ := hm.get (x := (2, 58, none)) (by simp) (ready_dep hr rfl (e := ⟨2, .data⟩) (by simp) rfl)
       have g2 := f2.1 rfl
       have kW := hm.on
       clear hm hr
       simp only [putsA, putsD, List.foldl_cons, List.foldl_nil, hu2, Option.getD_some, Act.put, List.setIfInBounds_toArray, List.set_cons_zero, List.set_cons_succ] at hK ⊢
       obtain ⟨g, rfl, hE⟩ := g2
       refine wp_append_new elI64 intC_len _ _ rfl rfl rfl hE (HRS9.out.on kW) (by omega) (by decide) (show wr.drew.heap.size ≤ _ from kW.size) ?_
       intro v' w'' h1 k1
       exact hK v' w'' k1 ⟨fun e => absurd e (by decide), fun _ => h1, fun e => absurd e (by decide)⟩
      ·
       refine ⟨_, rfl, rfl, fun p W' l' K hr hm hS hK => ?_⟩
       have kW := hm.on
       clear hm hr
       simp only [putsA, putsD, List.foldl_cons, List.foldl_nil, Act.put, List.setIfInBounds_toArray, List.set_cons_zero, List.set_cons_succ] at hK ⊢
       go_simp
       exact hK _ _ ((On.refl W').alloc _) ⟨fun e => absurd e (by decide), fun e => absurd e (by decide), fun _ => ⟨_, rfl, own_one W' #[.int .i64 y] _ 1 0 rfl (Nat.zero_le _)⟩⟩
     intro p WE hm hSE
     obtain ⟨u2, hu2, f2⟩ := hm.get (x := (2, 58, none)) (by simp) rfl
     have g2 := f2.1 rfl
     obtain ⟨u4, hu4, f4⟩ := hm.get (x := (4, 60, none)) (by simp) rfl
     have g4 := f4.2.1 rfl
     obtain ⟨u9, hu9, f9⟩ := hm.get (x := (9, 65, none)) (by simp) rfl
     have g9 := f9.2.2 rfl
     have kM := hm.on
     simp only [putsA, putsD, List.foldl_cons, List.foldl_nil, hu2, hu4, hu9, Option.getD_some, Act.put, List.setIfInBounds_toArray, List.set_cons_zero, List.set_cons_succ]
     clear hm hu2 f2 hu4 f4 hu9 f9
     obtain ⟨g10, rfl, h10⟩ := g9
     refine fz_one 10 rfl rfl (by kernel_rfl) (fun K hK => ?_)
     refine wp_append_rdG elI64 intC_len _ _ rfl rfl rfl (intC_one _) g4 (Rd.own (C := intC) (k := 1) intC_len (L := [y]) h10) (by simp; omega) (by decide) (show wr.drew.heap.size ≤ _ from kM.size) ?_
     intro v11 w11 h11 g11
     have kJ : On wr.drew w11 := kM.grown g11 (fun q hq => (g4.lt q hq).1)
     have S11 := hon _ _ S0 kJ
     obtain ⟨nn, hnn⟩ : ∃ nn, nn = (rs ++ [y]).length := ⟨_, rfl⟩
     rw [← hnn] at h11
     have HNN : Hid (nn = (rs ++ [y]).length) := hnn
     clear hnn
     obtain ⟨a11, c11, rfl⟩ := own_slice h11
     have H11 : Hid (w11.ownsRow wr.heap.size 2 1 (.slice a11 nn c11) nn ((rs ++ [y]).flatMap intC)) := h11
     clear h11 g4 h10 g11
     refine hK.out _ _ (fun _ => S11) ?_
     clear hK
     refine fz_one 14 rfl rfl (by kernel_rfl) (fun K hK => ?_)
     go_simp
     refine (HCALL.out (.slice a11 nn c11) w11 nn ((On.drew (On.refl wr)).trans kJ) HNN H11.out).mono ?_
     rintro e15 w15 ⟨v15, rfl, hO15, hF15, hK15⟩
     have S15 := HBB.out _ _ _ S11 hF15 hK15
     refine hK.out _ _ (fun _ => S15) ?_
     clear hK
     refine fz_take 15 (v := ?_) rfl (by kernel_rfl) (by kernel_rfl) (by kernel_rfl) (by kernel_rfl) (fun _ _ _ h => h) rfl ?_ S15 ?_
     rotate_left
     ·
      intro W hW
      go_simp
      (try with_reducible rfl)
     simp only [zpu, zsa, zsz, zss]
     refine fz_done (by kernel_rfl) (NoPanic.normal ?_)
     have HO2 : Hid (OwE w15 b v15 (thP L t V most n (rs ++ [y]) OI)) := hO15
     have HF2 : Hid (Fw (.slice ao ON co) v15 W6 w15) := (HFW.out.trans (Fw.on _ ((On.drew (On.refl wr)).trans kJ))).trans hF15
     have HK2' : Hid (Kv w w15) := (HKV.out.trans (Kv.on ((On.drew (On.refl wr)).trans kJ))).trans hK15
     clear hO15 hF15 hK15 HFW HKV
     go_wp2
     go_roundg (M - (k + 1))
     case measure => omega
     case rel => exact ⟨k + 1, v15, _, hlt, rfl, rfl, rfl, HO2, HTD, HF2, HK2', S15.1, S15.2.1⟩
    ·
     obtain rfl : k = M := by omega
     have hI := HT.out
     rw [List.drop_eq_nil_of_le (by rw [← HM.out]; exact Nat.le_refl _), List.foldl_nil] at hI
     have HPP : Hid (∃ v'', u4 = v'' ∧ OwE wr b v'' TT ∧ Fw (.slice ao ON co) v'' w wr ∧ Kv w wr) := ⟨u4, rfl, (by rw [hI]; exact HO.out), (Fw.on _ HK6.out).trans HFW.out, HKV.out⟩
     clear hI
     go_wp2
     go_ret
     obtain ⟨v'', e, h⟩ := HPP.out
     exact ⟨v'', by rw [← e]; rfl, h⟩
theorem th_is (LL : List (List InsT)) (locs t b most : Nat) (V : Nat → List Int) (w0 : World) (vp : Value) (hp : ProgRd w0 vp LL) (hf : ∀ L ∈ LL, fineL L) (hlo : locs ≤ 4) (hok : locsOk locs (threadP LL t)) (hb0 : w0.heap.size ≤ b) (hm : most ≤ 100000) (hV : ∀ l, (V l).length ≤ 1000000) (hL : (threadP LL t).length ≤ 1000) : ∀ n, ThIs LL locs t b most V w0 vp n
 | 0 => fun rs _ _ _ _ _ _ h => by have := unf_fuel (threadP LL t) t rs; omega
 | n + 1 => th_succ LL locs t b most V w0 vp n hp hf hlo hok hb0 hm hV hL (th_is LL locs t b most V w0 vp hp hf hlo hok hb0 hm hV hL n)
end Go.Proofs.YtioiabfheeglgaaGreatDoor
