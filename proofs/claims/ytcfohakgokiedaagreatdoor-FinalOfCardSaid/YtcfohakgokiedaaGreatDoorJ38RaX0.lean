/- event.Inits and the document's Inits. -/
import Derived.Test.YtcfohakgokiedaaGreatDoorJ26Eqs
import Derived.Test.YtcfohakgokiedaaGreatDoorJ36RComp
import Derived.Test.YtcfohakgokiedaaGreatDoorJ17StepI
import Derived.Laws.OwnMore
import Derived.Test.YtcfohakgokiedaaGreatDoorJ37RaW
namespace Go.Proofs.YtcfohakgokiedaaGreatDoor
open Go.RowKit

def iniE (IN : List Int) (i : Nat) : EvT := ⟨-1, i, 2, i, 0, IN.getD i 0⟩
def initsP (m : Nat) (IN : List Int) : List EvT := (List.range m).map (iniE IN)
/-- The row as far as it is filled. -/
def iTo (IN : List Int) (m n : Nat) : List EvT := initsP n IN ++ List.replicate (m - n) evZ
theorem inits_len (m : Nat) (IN : List Int) : (initsP m IN).length = m := by unfold initsP; simp
theorem inits_succ (m : Nat) (IN : List Int) : initsP (m + 1) IN = initsP m IN ++ [iniE IN m] := by unfold initsP; rw [List.range_succ, List.map_append]; rfl
theorem iTo_len (IN : List Int) {m n : Nat} (h : n ≤ m) : (iTo IN m n).length = m := by unfold iTo; rw [List.length_append, inits_len, List.length_replicate]; omega
theorem iTo_step (IN : List Int) {m n : Nat} (h : n < m) : (iTo IN m n).set n (iniE IN n) = iTo IN m (n + 1) := by
 unfold iTo
 rw [show m - n = (m - (n + 1)) + 1 by omega, rep_succ, inits_succ]
 have := set_split (initsP n IN) (List.replicate (m - (n + 1)) evZ) evZ (iniE IN n)
 rw [inits_len] at this
 rw [this, List.append_assoc]
 rfl
theorem iTo_all (IN : List Int) (m : Nat) : iTo IN m m = initsP m IN := by unfold iTo; simp
theorem iTo_zero (IN : List Int) (m : Nat) : iTo IN m 0 = List.replicate m evZ := by unfold iTo initsP; simp
theorem iTo_at (IN : List Int) {m n : Nat} (h : n < m) : (iTo IN m n)[n]? = some evZ := by
 unfold iTo
 rw [List.getElem?_append_right (by rw [inits_len]; omega), inits_len, Nat.sub_self, List.getElem?_replicate, if_pos (by omega)]
theorem infoEvE : (Tryz.prog.info? 58).map (fun i => (i.zero, i.size, i.bytes)) = some (some (evV evZ), 6, 48) := by kernel_rfl
theorem made_ev (n : Nat) : (madeCells (evV evZ).cells (n * 6)).toList = (List.replicate n evZ).flatMap evC := by
 apply List.ext_getElem?
 intro j
 have hl : ((List.replicate n evZ).flatMap evC).length = n * 6 := by simp [List.length_flatMap, evC]
 by_cases hj : j < n * 6
 ·
  have h1 : (List.replicate n evZ)[j / 6]? = some evZ := by rw [List.getElem?_replicate]; simp; omega
  have h2 := flat_at evC 6 (fun _ => rfl) (List.replicate n evZ) (j / 6) (j % 6) evZ h1 (Nat.mod_lt _ (by decide))
  rw [show j / 6 * 6 + j % 6 = j by omega] at h2
  rw [h2]
  have h3 : (madeCells (evV evZ).cells (n * 6)).toList[j]? = some ((evV evZ).cells[j % (evV evZ).cells.size]!) := by simp [madeCells, hj]
  rw [h3]
  have h4 : ∀ k, k < 6 → some ((evV evZ).cells[k]!) = (evC evZ)[k]? := fun k hk => by
   match k, hk with
   | 0, _ => rfl
   | 1, _ => rfl
   | 2, _ => rfl
   | 3, _ => rfl
   | 4, _ => rfl
   | 5, _ => rfl
  exact h4 (j % 6) (Nat.mod_lt _ (by decide))
 ·
  have h5 : (madeCells (evV evZ).cells (n * 6)).toList[j]? = none := List.getElem?_eq_none (by simp [madeCells]; omega)
  rw [h5, List.getElem?_eq_none (by rw [hl]; omega)]
/-- An event written anew, its last cell twice. -/
theorem put_twice (IN : List Int) {m n : Nat} (h : n < m) (v0 : Value) :
  (((((((((iTo IN m n).flatMap evC).set (n * 6) (.int .i64 (-1))).set (n * 6 + 1) (.int .i64 n)).set (n * 6 + 2) (.int .i64 2)).set (n * 6 + 3) (.int .i64 n)).set (n * 6 + 4) (.int .i64 0)).set (n * 6 + 5) v0).set (n * 6 + 5) (.int .i64 (IN.getD n 0))) = (iTo IN m (n + 1)).flatMap evC := by
 rw [List.set_set, ← iTo_step IN h]
 exact putAt_flat evC 6 (fun _ => rfl) (iTo IN m n) n (iniE IN n) (by rw [iTo_len IN (by omega)]; exact h)
set_option maxHeartbeats 4000000 in
set_option maxRecDepth 8000 in
theorem rinits_is (LT : List UInt8) (IN : List Int) (LL : List (List InsT)) (v : Value) (w : World) (h : ProgFl w v LT IN LL) (hn : LT.length ≤ 1000) (he : IN.length = LT.length) :
  Calls Tryz.prog 18 #[v] w fun e w' => ∃ a c, e = .returned (.slice a LT.length c) ∧ w'.ownsRow w.heap.size 58 6 (.slice a LT.length c) LT.length ((initsP LT.length IN).flatMap evC) ∧ On w w' := by
 obtain ⟨i0, hi0, hz0, hz1, hz2⟩ := info_parts infoEv
 obtain ⟨a1, c1, a2, c2, a3, c3, rfl, _, r2, _⟩ := h.ex
 have HR : Hid (Rd intC 1 w (.slice a2 IN.length c2) IN) := r2
 clear h r2
 obtain ⟨m, hm⟩ : ∃ m, m = LT.length := ⟨_, rfl⟩
 rw [← hm] at hn he ⊢
 rw [he] at HR ⊢
 have HE : Hid (IN.length = m) := he
 clear hm he
 have bt : ∀ cs T, Bk (w.alloc (.cells cs T)) w.heap.size cs := fun cs T => Bk.new w cs T
 go_enter Tryz.func18, Tryz.ntmps18
 go_wp2
 go_loopg [3, 4] m (fun gg s3 s4 wq => ∃ (n : Nat) (b : Option Addr) (d : Nat), n ≤ m ∧ gg = m - n ∧ s3 = .slice b n d ∧ s4 = .int .i64 n ∧ Hid (On w wq) ∧ Bk wq w.heap.size #[.slice a1 m c1, .slice a2 m c2, .slice a3 LL.length c3] ∧ wq.ownsRow (w.heap.size + 1) 58 6 (.slice b n d) n ((initsP n IN).flatMap evC))
 case atStart => exact ⟨0, none, 0, Nat.zero_le _, rfl, rfl, rfl, (On.refl w).alloc _, bt _ _, World.ownsRow_nil _ _ _ _⟩
 case round =>
  clear bt
  obtain ⟨n, b, d, hnm, hk, rfl, rfl, HO, PB, hown⟩ := hrel
  have p0 := PB.at (i := 0) rfl
  have p1 := PB.at (i := 1) rfl
  have pl := PB.lt
  rcases Nat.lt_or_ge n m with hlt | hge
  ·
   obtain ⟨x, hx⟩ : ∃ x, IN[n]? = some x := ⟨_, List.getElem?_eq_getElem (by rw [HE.out]; exact hlt)⟩
   have hRx : Rd intC 1 wr (.slice a2 IN.length c2) IN := by rw [HE.out]; exact HR.out.on HO.out
   obtain ⟨g, off, rfl, hg, hcell⟩ := hRx.at hx
   have q0 : wr.cell? ⟨g, off + n, none⟩ = some (.int .i64 x) := by have := hcell 0 _ rfl; simpa using this
   have hxd : iniE IN n = ⟨-1, n, 2, n, 0, x⟩ := by unfold iniE; rw [List.getD_eq_getElem?_getD, hx]; rfl
   have HX : Hid (initsP (n + 1) IN = initsP n IN ++ [⟨-1, n, 2, n, 0, x⟩]) := by
    show _ = _
    rw [inits_succ, hxd]
   have hblk : ∀ g, (Value.slice b n d).ownBlock = some g → w.heap.size + 1 ≤ g := fun g hg => (hown.lt g hg).1
   clear hcell hx hRx hxd
   go_wp2_with (at_builtin; refine wpList_append_own _ rfl _ _ 38 rfl (w.heap.size + 1) 58 i0 (.agg #[.int .i64 0, .int .i64 0, .int .i64 0, .int .i64 0, .int .i64 0, .int .i64 0]) 6 48 Tryz.underlying38 hi0 hz0 hz1 hz2 rfl (by decide) _ _ _ rfl (hown.alloc _) ⟨wr.heap.size, 0, none⟩ 1 1 (evC ⟨-1, n, 2, n, 0, x⟩) rfl rfl ?c1 ?c2 ?c3 ?c4 ?c5 ?_)
   case c1 => exact news_eq rfl _ _
   case c2 => exact one_ev _
   case c3 => unfold maxLen; omega
   case c4 => omega
   case c5 => simp only [World.size_alloc]; omega
   intro v6 w5 own5 hg5 _
   obtain ⟨b7, d7, rfl⟩ := own_slice own5
   have P5 := Bk.grown (PB.alloc _) hg5 (by omega : w.heap.size < w.heap.size + 1) hblk
   have K5 : On w w5 := On.grown (HO.out.alloc _) hg5 (fun g hg => by have := hblk g hg; omega)
   have O5 : Hid (w5.ownsRow (w.heap.size + 1) 58 6 (.slice b7 (n + 1) d7) (n + 1) ((initsP (n + 1) IN).flatMap evC)) := by
    show World.ownsRow _ _ _ _ _ _ _
    rw [HX.out, List.flatMap_append]
    exact own5
   clear own5 hg5 hown
   go_wp2
   go_roundg (m - (n + 1))
   case measure => omega
   case rel => exact ⟨n + 1, b7, d7, by omega, rfl, rfl, by go_num, K5, P5, O5.out⟩
  ·
   obtain rfl : n = m := by omega
   have HW : Hid _ := hown
   clear hown
   go_wp2
   go_ret
   exact ⟨_, _, rfl, own_mono HW.out (by omega), HO.out⟩
end Go.Proofs.YtcfohakgokiedaaGreatDoor

namespace Go.Proofs.YtcfohakgokiedaaGreatDoor
open Go.RowKit

abbrev T4 : TypeId := 52
abbrev TU : TypeId := 54
abbrev TP : TypeId := 27
theorem tJ1 : TV ≠ (2 : TypeId) := by decide
theorem tJ2 : (58 : TypeId) ≠ (2 : TypeId) := by decide
theorem tJ3 : TV ≠ T4 := by decide
theorem tJ4 : (58 : TypeId) ≠ T4 := by decide
theorem tJ5 : TV ≠ TU := by decide
theorem tJ6 : (58 : TypeId) ≠ TU := by decide
theorem tJ7 : (2 : TypeId) ≠ T4 := by decide
theorem tJ8 : (2 : TypeId) ≠ TU := by decide
theorem own_fw {w w' : World} {base k n : Nat} {e : TypeId} {v x x' : Value} {xs : List Value} (h : w.ownsRow base e k v n xs) (f : Fw x x' w w') (hne : ∀ g, v.ownBlock = some g → x.ownBlock ≠ some g) : w'.ownsRow base e k v n xs := by
 refine ⟨h.1, ?_⟩
 rcases h.2 with h2 | ⟨g, cap, cur, rfl, hb, hh, r⟩
 ·
  exact Or.inl h2
 ·
  exact Or.inr ⟨g, cap, cur, rfl, hb, ((f (g + 1)).block g (lt_of_block hh) (by omega) (hne g rfl)).trans hh, r⟩
/-- Four rows of numbers of the call's own, apart from each other. -/
structure Vs (b : Nat) (w : World) (xs : List Value) (V : Nat → List Int) : Prop where
 own : ∀ (l : Nat) (x : Value), xs[l]? = some x → w.ownsRow b 2 1 x (V l).length ((V l).flatMap intC)
 apart : ∀ (l l' : Nat) (x x' : Value) (g : Nat), l ≠ l' → xs[l]? = some x → xs[l']? = some x' → x.ownBlock = some g → x'.ownBlock ≠ some g
def updF {α : Type} (V : Nat → α) (l : Nat) (y : α) : Nat → α := fun i => if i = l then y else V i
theorem upd_at {α : Type} (V : Nat → α) (l : Nat) (y : α) : updF V l y l = y := if_pos rfl
theorem upd_far {α : Type} (V : Nat → α) {l i : Nat} (y : α) (h : i ≠ l) : updF V l y i = V i := if_neg h
theorem Vs.upd {b : Nat} {w w' : World} {xs : List Value} {V : Nat → List Int} {l : Nat} {x' : Value} {L : List Int} (h : Vs b w xs V)
  (hk : ∀ l' x, l' ≠ l → xs[l']? = some x → w'.ownsRow b 2 1 x (V l').length ((V l').flatMap intC)) (ho : w'.ownsRow b 2 1 x' L.length (L.flatMap intC))
  (hap : ∀ l' x g, l' ≠ l → xs[l']? = some x → x.ownBlock = some g → x'.ownBlock ≠ some g) : Vs b w' (xs.set l x') (updF V l L) := by
 have key : ∀ i x, (xs.set l x')[i]? = some x → (i = l ∧ x = x') ∨ (i ≠ l ∧ xs[i]? = some x) := fun i x e => by
  rw [List.getElem?_set] at e
  split at e
  ·
   rename_i hi
   split at e
   ·
    exact Or.inl ⟨hi.symm, (Option.some.inj e).symm⟩
   ·
    cases e
  ·
   rename_i hi
   exact Or.inr ⟨fun e => hi e.symm, e⟩
 refine ⟨fun i x e => ?_, fun i j x y g hij e1 e2 hg => ?_⟩
 ·
  rcases key i x e with ⟨rfl, rfl⟩ | ⟨hi, e⟩
  ·
   rw [upd_at]; exact ho
  ·
   rw [upd_far V L hi]; exact hk i x hi e
 ·
  rcases key i x e1 with ⟨rfl, rfl⟩ | ⟨hi, f1⟩
  ·
   rcases key j y e2 with ⟨rfl, rfl⟩ | ⟨hj, f2⟩
   ·
    exact absurd rfl hij
   ·
    intro e
    exact hap j y g hj f2 e hg
  ·
   rcases key j y e2 with ⟨rfl, rfl⟩ | ⟨hj, f2⟩
   ·
    exact hap i x g hi f1 hg
   ·
    exact h.apart i j x y g hij f1 f2 hg
theorem Vs.on {b : Nat} {w w' : World} {xs : List Value} {V : Nat → List Int} (h : Vs b w xs V) (k : On w w') : Vs b w' xs V := ⟨fun l x e => own_on (h.own l x e) k, h.apart⟩
theorem Vs.set {b N i : Nat} {w : World} {xs : List Value} {V : Nat → List Int} {cs : Array Value} {T : TypeId} (h : Vs b w xs V) (hN : w.heap[N]? = some (.cells cs T (0, 0))) (hT : (2 : TypeId) ≠ T) (u : Value) : Vs b (w.setCell ⟨N, i, none⟩ u) xs V := ⟨fun l x e => own_setT (h.own l x e) hN hT i u, h.apart⟩
structure AS (w0 : World) (NV NU : Nat) (pv : Array Value) (w : World) (xs us : List Value) (V : Nat → List Int) (UN : Nat → List (List EvT)) (k : Nat) : Prop where
 on : On w0 w
 bp : w.heap[w0.heap.size]? = some (.cells pv TP (0, 0))
 hv : w.heap[NV]? = some (.cells xs.toArray T4 (0, 0))
 hu : w.heap[NU]? = some (.cells us.toArray TU (0, 0))
 lx : xs.length = 4
 lu : us.length = 4
 vs : Vs w0.heap.size w xs V
 un : ∀ t, t < k → ∃ u, us[t]? = some u ∧ RdE2 w u (UN t)
 nv : w0.heap.size < NV
 nu : NV < NU
section
variable {w0 : World} {NV NU : Nat} {pv : Array Value} {w w' : World} {xs us : List Value} {V : Nat → List Int} {UN : Nat → List (List EvT)} {k : Nat}
theorem AS.go (h : AS w0 NV NU pv w xs us V UN k) (o : On w w') : AS w0 NV NU pv w' xs us V UN k :=
 ⟨h.on.trans o, (o.block _ (lt_of_block h.bp)).trans h.bp, (o.block _ (lt_of_block h.hv)).trans h.hv, (o.block _ (lt_of_block h.hu)).trans h.hu, h.lx, h.lu, h.vs.on o, fun t ht => by obtain ⟨u, e, r⟩ := h.un t ht; exact ⟨u, e, r.on o⟩, h.nv, h.nu⟩
theorem AS.zero (h : AS w0 NV NU pv w xs us V UN k) (UN' : Nat → List (List EvT)) : AS w0 NV NU pv w xs us V UN' 0 := ⟨h.on, h.bp, h.hv, h.hu, h.lx, h.lu, h.vs, fun t ht => by omega, h.nv, h.nu⟩
theorem AS.fill (h : AS w0 NV NU pv w xs us V UN k) (o : On w w') {u : Value} {R : List (List EvT)} (hR : RdE2 w' u R) (hk : k < 4) : AS w0 NV NU pv (w'.setCell ⟨NU, k, none⟩ u) xs (us.set k u) V (updF UN k R) (k + 1) := by
 have h2 := h.go o
 have kt : Kt TU w' (w'.setCell ⟨NU, k, none⟩ u) := Kt.set h2.hu u
 have h1 := h.nv
 have h3 := h.nu
 refine ⟨h2.on.setNew (by omega) _, (kt.block _ _ _ _ h2.bp (by decide)).trans h2.bp, (kt.block _ _ _ _ h2.hv (by decide)).trans h2.hv, heap_put h2.hu k u, h2.lx, by rw [List.length_set]; exact h2.lu, h2.vs.set h2.hu tJ8 u, fun t ht => ?_, h1, h3⟩
 by_cases e : t = k
 ·
  subst e
  exact ⟨u, by rw [List.getElem?_set_self (by rw [h.lu]; exact hk)], by rw [upd_at]; exact hR.kt kt tJ5 tJ6⟩
 ·
  obtain ⟨u', e1, e2⟩ := h2.un t (by omega)
  refine ⟨u', by rw [List.getElem?_set_ne (fun q => e q.symm)]; exact e1, ?_⟩
  rw [upd_far UN R e]
  exact e2.kt kt tJ5 tJ6
theorem AS.put (h : AS w0 NV NU pv w xs us V UN k) {l : Nat} {x x' : Value} {L : List Int} (hx : xs[l]? = some x) (f : Fw x x' w w') (kt : Kt 2 w w') (ho : w'.ownsRow w0.heap.size 2 1 x' L.length (L.flatMap intC)) :
  AS w0 NV NU pv (w'.setCell ⟨NV, l, none⟩ x') (xs.set l x') us (updF V l L) UN k := by
 have h1 := h.nv
 have h3 := h.nu
 have e1 : w'.heap[w0.heap.size]? = some (.cells pv TP (0, 0)) := (kt.block _ _ _ _ h.bp (by decide)).trans h.bp
 have e2 : w'.heap[NV]? = some (.cells xs.toArray T4 (0, 0)) := (kt.block _ _ _ _ h.hv (by decide)).trans h.hv
 have e3 : w'.heap[NU]? = some (.cells us.toArray TU (0, 0)) := (kt.block _ _ _ _ h.hu (by decide)).trans h.hu
 have kt2 : Kt T4 w' (w'.setCell ⟨NV, l, none⟩ x') := Kt.set e2 x'
 have hon : On w0 w' := h.on.fw f (fun g hg => ((h.vs.own l x hx).lt g hg).1)
 have hv2 : Vs w0.heap.size w' (xs.set l x') (updF V l L) := h.vs.upd (fun l' y hne hy => own_fw (h.vs.own l' y hy) f (fun g hg => h.vs.apart l' l y x g hne hy hx hg)) ho (fun l' y g hne hy hg => by
  have hlt := ((h.vs.own l' y hy).lt g hg).2
  rcases (f 0).next with e | e
  ·
   rw [e]
   exact h.vs.apart l' l y x g hne hy hx hg
  ·
   intro e'
   have := e g e'
   omega)
 exact ⟨hon.setNew (by omega) _, (kt2.block _ _ _ _ e1 (by decide)).trans e1, heap_put e2 l x', (kt2.block _ _ _ _ e3 (by decide)).trans e3, by rw [List.length_set]; exact h.lx, h.lu, hv2.set e2 tJ7 x', fun t ht => by
  obtain ⟨u, a1, a2⟩ := h.un t ht
  exact ⟨u, a1, (a2.kt kt tJ1 tJ2).kt kt2 tJ3 tJ4⟩, h1, h3⟩
end
/-- Ahead of the unfoldings. -/
structure A1 (w0 : World) (NV : Nat) (pv : Array Value) (w : World) (xs : List Value) (V : Nat → List Int) : Prop where
 on : On w0 w
 bp : w.heap[w0.heap.size]? = some (.cells pv TP (0, 0))
 hv : w.heap[NV]? = some (.cells xs.toArray T4 (0, 0))
 lx : xs.length = 4
 vs : Vs w0.heap.size w xs V
 nv : w0.heap.size < NV
theorem A1.put {w0 w : World} {NV l : Nat} {pv : Array Value} {xs : List Value} {V : Nat → List Int} (h : A1 w0 NV pv w xs V) (y : Int) :
  A1 w0 NV pv ((w.alloc (.cells #[.int .i64 y] 2)).setCell ⟨NV, l, none⟩ (.slice (some ⟨w.heap.size, 0, none⟩) 1 1)) (xs.set l (.slice (some ⟨w.heap.size, 0, none⟩) 1 1)) (updF V l [y]) := by
 have h1 := h.nv
 have k : On w (w.alloc (.cells #[.int .i64 y] 2)) := (On.refl w).alloc _
 have e1 := (k.block _ (lt_of_block h.bp)).trans h.bp
 have e2 := (k.block _ (lt_of_block h.hv)).trans h.hv
 have kt2 : Kt T4 _ ((w.alloc (.cells #[.int .i64 y] 2)).setCell ⟨NV, l, none⟩ (.slice (some ⟨w.heap.size, 0, none⟩) 1 1)) := Kt.set e2 _
 have hv2 : Vs w0.heap.size (w.alloc (.cells #[.int .i64 y] 2)) (xs.set l (.slice (some ⟨w.heap.size, 0, none⟩) 1 1)) (updF V l [y]) := h.vs.upd (fun l' x _ hx => own_on (h.vs.own l' x hx) k) (own_one w #[.int .i64 y] _ 1 _ rfl h.on.size) (fun l' x g _ hx hg => by
  have := ((h.vs.own l' x hx).lt g hg).2
  simp only [Value.ownBlock, Option.some.injEq, ne_eq]
  omega)
 exact ⟨(h.on.trans k).setNew (by omega) _, (kt2.block _ _ _ _ e1 (by decide)).trans e1, heap_put e2 l _, by rw [List.length_set]; exact h.lx, hv2.set e2 tJ7 _, h1⟩
theorem A1.as {w0 w : World} {NV : Nat} {pv : Array Value} {xs : List Value} {V : Nat → List Int} (h : A1 w0 NV pv w xs V) (UN : Nat → List (List EvT)) (u : Value) :
  AS w0 NV w.heap.size pv (w.alloc (.cells #[u, u, u, u] TU)) xs [u, u, u, u] V UN 0 := by
 have k : On w (w.alloc (.cells #[u, u, u, u] TU)) := (On.refl w).alloc _
 exact ⟨h.on.trans k, (k.block _ (lt_of_block h.bp)).trans h.bp, (k.block _ (lt_of_block h.hv)).trans h.hv, heap_alloc_new w _, h.lx, rfl, h.vs.on k, fun t ht => by omega, h.nv, lt_of_block h.hv⟩
theorem A1.nil {w : World} (pv : Array Value) : A1 w (w.heap.size + 1) pv ((w.alloc (.cells pv TP)).alloc (.cells #[.slice none 0 0, .slice none 0 0, .slice none 0 0, .slice none 0 0] T4)) [.slice none 0 0, .slice none 0 0, .slice none 0 0, .slice none 0 0] (fun _ => []) := by
 have hall : ∀ (l : Nat) (x : Value), [Value.slice none 0 0, .slice none 0 0, .slice none 0 0, .slice none 0 0][l]? = some x → x = .slice none 0 0 := fun l x h => by
  have := List.mem_of_getElem? h
  simpa using this
 have e1 : (w.alloc (.cells pv TP)).heap[w.heap.size]? = some (.cells pv TP (0, 0)) := heap_alloc_new w _
 have k : On (w.alloc (.cells pv TP)) ((w.alloc (.cells pv TP)).alloc (.cells #[.slice none 0 0, .slice none 0 0, .slice none 0 0, .slice none 0 0] T4)) := (On.refl _).alloc _
 refine ⟨((On.refl w).alloc _).alloc _, (k.block _ (lt_of_block e1)).trans e1, ?_, rfl, ⟨fun l x h => ?_, fun l l' x x' g _ h _ hg => ?_⟩, by omega⟩
 ·
  have := heap_alloc_new (w.alloc (.cells pv TP)) (.cells #[.slice none 0 0, .slice none 0 0, .slice none 0 0, .slice none 0 0] T4)
  rw [World.size_alloc] at this
  exact this
 ·
  rw [hall l x h]
  exact World.ownsRow_nil _ _ _ _
 ·
  rw [hall l x h] at hg
  cases hg
/-- What holds of every unfolding holds of each row. -/
theorem th_all (P : List EvT → Prop) (L : List InsT) (t : Int) (V : Nat → List Int) (most : Nat) (hU : ∀ rs, P (unfP L t rs).1) : ∀ (n : Nat) (rs : List Int) (out : List (List EvT)), (∀ r ∈ out, P r) → ∀ r ∈ thP L t V most n rs out, P r
 | 0, _, _, h => h
 | n + 1, rs, out, h => by
  rw [thP]
  split
  ·
   exact h
  ·
   split
   ·
    have : ∀ (Y : List Int) (o : List (List EvT)), (∀ r ∈ o, P r) → ∀ r ∈ Y.foldl (fun o y => thP L t V most n (rs ++ [y]) o) o, P r := by
     intro Y
     induction Y with
     | nil => exact fun o h => h
     | cons y Y ih => exact fun o h => ih _ (th_all P L t V most hU n (rs ++ [y]) o h)
    exact this _ out h
   ·
    intro r hr
    simp only [List.mem_append, List.mem_singleton] at hr
    rcases hr with hr | rfl
    ·
     exact h r hr
    ·
     exact hU rs
/-- What is written lies at locations that are there. -/
theorem unfN_locs (m : Nat) (L : List InsT) (t : Int) (hok : locsOk m L) : ∀ (n : Nat) (l : LocT) (i : Nat) (rs : List Int), ∀ e ∈ (unfN n L t l i rs).1, wrsB e.k = true → 0 ≤ e.l ∧ e.l < m
 | 0, l, i, rs, e, he => by rw [unfN] at he; simp at he
 | n + 1, l, i, rs, e, he => by
  cases hx : nextP L l with
  | none => rw [unf_none hx] at he; simp at he
  | some x =>
   cases hv : valP x rs with
   | none => rw [unf_more hx hv] at he; simp at he
   | some p =>
    obtain ⟨v, r⟩ := p
    rw [unf_some hx hv] at he
    simp only [List.mem_cons] at he
    rcases he with rfl | he
    ·
     have hmem : x ∈ L := by
      unfold nextP at hx
      split at hx
      ·
       split at hx
       ·
        rename_i y hy
        split at hx
        ·
         rw [← Option.some.inj hx]; exact List.mem_of_getElem? hy
        ·
         cases hx
       ·
        cases hx
      ·
       cases hx
     have hL := hok x hmem
     unfold atP doneP swapP wrsB
     unfold hasLB at hL
     cases h2 : (x.k == 2) with
     | true => simp
     | false =>
      cases h1 : (x.k == 1) with
      | true =>
       rw [h1] at hL
       simp only [if_true, Bool.false_eq_true, if_false]
       intro _
       exact hL rfl
      | false =>
       cases h4 : (x.k == 4) with
       | true =>
        rw [h1, h2, h4] at hL
        simp only [if_true, Bool.false_eq_true, if_false]
        intro _
        have := hL rfl
        split <;> exact this
       | false => simp
    ·
     exact unfN_locs m L t hok n _ _ _ e he
end Go.Proofs.YtcfohakgokiedaaGreatDoor
