/- Values and unfoldings in memory, as they grow: for the document's All. -/
import Derived.Test.YtioiabfheeglgaaGreatDoorJ39EvI
namespace Go.Proofs.YtioiabfheeglgaaGreatDoor
open Go.RowKit

abbrev T4 : TypeId := 52
abbrev TU : TypeId := 54
abbrev TP : TypeId := 27
theorem tJ1 : TV ≠ (2 : TypeId) := by decide
theorem tJ2 : (58 : TypeId) ≠ (2 : TypeId) := by decide
theorem tJ3 : TV ≠ T4 := by decide
theorem tJ4 : (58 : TypeId) ≠ T4 := by decide
theorem tJ5 : TV ≠ TU := by decide
theorem tJ6 : (58 : TypeId) ≠ TU := by decide
theorem tJ7 : (2 : TypeId) ≠ T4 := by decide
theorem tJ8 : (2 : TypeId) ≠ TU := by decide
theorem own_fw {w w' : World} {base k n : Nat} {e : TypeId} {v x x' : Value} {xs : List Value} (h : w.ownsRow base e k v n xs) (f : Fw x x' w w') (hne : ∀ g, v.ownBlock = some g → x.ownBlock ≠ some g) : w'.ownsRow base e k v n xs := by
 refine ⟨h.1, ?_⟩
 rcases h.2 with h2 | ⟨g, cap, cur, rfl, hb, hh, r⟩
 ·
  exact Or.inl h2
 ·
  exact Or.inr ⟨g, cap, cur, rfl, hb, ((f (g + 1)).block g (lt_of_block hh) (by omega) (hne g rfl)).trans hh, r⟩
/-- Four rows of numbers of the call's own, apart from each other. -/
structure Vs (b : Nat) (w : World) (xs : List Value) (V : Nat → List Int) : Prop where
 own : ∀ (l : Nat) (x : Value), xs[l]? = some x → w.ownsRow b 2 1 x (V l).length ((V l).flatMap intC)
 apart : ∀ (l l' : Nat) (x x' : Value) (g : Nat), l ≠ l' → xs[l]? = some x → xs[l']? = some x' → x.ownBlock = some g → x'.ownBlock ≠ some g
def updF {α : Type} (V : Nat → α) (l : Nat) (y : α) : Nat → α := fun i => if i = l then y else V i
theorem upd_at {α : Type} (V : Nat → α) (l : Nat) (y : α) : updF V l y l = y := if_pos rfl
theorem upd_far {α : Type} (V : Nat → α) {l i : Nat} (y : α) (h : i ≠ l) : updF V l y i = V i := if_neg h
theorem Vs.upd {b : Nat} {w w' : World} {xs : List Value} {V : Nat → List Int} {l : Nat} {x' : Value} {L : List Int} (h : Vs b w xs V)
  (hk : ∀ l' x, l' ≠ l → xs[l']? = some x → w'.ownsRow b 2 1 x (V l').length ((V l').flatMap intC)) (ho : w'.ownsRow b 2 1 x' L.length (L.flatMap intC))
  (hap : ∀ l' x g, l' ≠ l → xs[l']? = some x → x.ownBlock = some g → x'.ownBlock ≠ some g) : Vs b w' (xs.set l x') (updF V l L) := by
 have key : ∀ i x, (xs.set l x')[i]? = some x → (i = l ∧ x = x') ∨ (i ≠ l ∧ xs[i]? = some x) := fun i x e => by
  rw [List.getElem?_set] at e
  split at e
  ·
   rename_i hi
   split at e
   ·
    exact Or.inl ⟨hi.symm, (Option.some.inj e).symm⟩
   ·
    cases e
  ·
   rename_i hi
   exact Or.inr ⟨fun e => hi e.symm, e⟩
 refine ⟨fun i x e => ?_, fun i j x y g hij e1 e2 hg => ?_⟩
 ·
  rcases key i x e with ⟨rfl, rfl⟩ | ⟨hi, e⟩
  ·
   rw [upd_at]; exact ho
  ·
   rw [upd_far V L hi]; exact hk i x hi e
 ·
  rcases key i x e1 with ⟨rfl, rfl⟩ | ⟨hi, f1⟩
  ·
   rcases key j y e2 with ⟨rfl, rfl⟩ | ⟨hj, f2⟩
   ·
    exact absurd rfl hij
   ·
    intro e
    exact hap j y g hj f2 e hg
  ·
   rcases key j y e2 with ⟨rfl, rfl⟩ | ⟨hj, f2⟩
   ·
    exact hap i x g hi f1 hg
   ·
    exact h.apart i j x y g hij f1 f2 hg
theorem Vs.on {b : Nat} {w w' : World} {xs : List Value} {V : Nat → List Int} (h : Vs b w xs V) (k : On w w') : Vs b w' xs V := ⟨fun l x e => own_on (h.own l x e) k, h.apart⟩
theorem Vs.set {b N i : Nat} {w : World} {xs : List Value} {V : Nat → List Int} {cs : Array Value} {T : TypeId} (h : Vs b w xs V) (hN : w.heap[N]? = some (.cells cs T (0, 0))) (hT : (2 : TypeId) ≠ T) (u : Value) : Vs b (w.setCell ⟨N, i, none⟩ u) xs V := ⟨fun l x e => own_setT (h.own l x e) hN hT i u, h.apart⟩
structure AS (w0 : World) (NV NU : Nat) (pv : Array Value) (w : World) (xs us : List Value) (V : Nat → List Int) (UN : Nat → List (List EvT)) (k : Nat) : Prop where
 on : On w0 w
 bp : w.heap[w0.heap.size]? = some (.cells pv TP (0, 0))
 hv : w.heap[NV]? = some (.cells xs.toArray T4 (0, 0))
 hu : w.heap[NU]? = some (.cells us.toArray TU (0, 0))
 lx : xs.length = 4
 lu : us.length = 4
 vs : Vs w0.heap.size w xs V
 un : ∀ t, t < k → ∃ u, us[t]? = some u ∧ RdE2 w u (UN t)
 nv : w0.heap.size < NV
 nu : NV < NU
section
variable {w0 : World} {NV NU : Nat} {pv : Array Value} {w w' : World} {xs us : List Value} {V : Nat → List Int} {UN : Nat → List (List EvT)} {k : Nat}
theorem AS.go (h : AS w0 NV NU pv w xs us V UN k) (o : On w w') : AS w0 NV NU pv w' xs us V UN k :=
 ⟨h.on.trans o, (o.block _ (lt_of_block h.bp)).trans h.bp, (o.block _ (lt_of_block h.hv)).trans h.hv, (o.block _ (lt_of_block h.hu)).trans h.hu, h.lx, h.lu, h.vs.on o, fun t ht => by obtain ⟨u, e, r⟩ := h.un t ht; exact ⟨u, e, r.on o⟩, h.nv, h.nu⟩
theorem AS.zero (h : AS w0 NV NU pv w xs us V UN k) (UN' : Nat → List (List EvT)) : AS w0 NV NU pv w xs us V UN' 0 := ⟨h.on, h.bp, h.hv, h.hu, h.lx, h.lu, h.vs, fun t ht => by omega, h.nv, h.nu⟩
theorem AS.fill (h : AS w0 NV NU pv w xs us V UN k) (o : On w w') {u : Value} {R : List (List EvT)} (hR : RdE2 w' u R) (hk : k < 4) : AS w0 NV NU pv (w'.setCell ⟨NU, k, none⟩ u) xs (us.set k u) V (updF UN k R) (k + 1) := by
 have h2 := h.go o
 have kt : Kt TU w' (w'.setCell ⟨NU, k, none⟩ u) := Kt.set h2.hu u
 have h1 := h.nv
 have h3 := h.nu
 refine ⟨h2.on.setNew (by omega) _, (kt.block _ _ _ _ h2.bp (by decide)).trans h2.bp, (kt.block _ _ _ _ h2.hv (by decide)).trans h2.hv, heap_put h2.hu k u, h2.lx, by rw [List.length_set]; exact h2.lu, h2.vs.set h2.hu tJ8 u, fun t ht => ?_, h1, h3⟩
 by_cases e : t = k
 ·
  subst e
  exact ⟨u, by rw [List.getElem?_set_self (by rw [h.lu]; exact hk)], by rw [upd_at]; exact hR.kt kt tJ5 tJ6⟩
 ·
  obtain ⟨u', e1, e2⟩ := h2.un t (by omega)
  refine ⟨u', by rw [List.getElem?_set_ne (fun q => e q.symm)]; exact e1, ?_⟩
  rw [upd_far UN R e]
  exact e2.kt kt tJ5 tJ6
theorem AS.put (h : AS w0 NV NU pv w xs us V UN k) {l : Nat} {x x' : Value} {L : List Int} (hx : xs[l]? = some x) (f : Fw x x' w w') (kt : Kt 2 w w') (ho : w'.ownsRow w0.heap.size 2 1 x' L.length (L.flatMap intC)) :
  AS w0 NV NU pv (w'.setCell ⟨NV, l, none⟩ x') (xs.set l x') us (updF V l L) UN k := by
 have h1 := h.nv
 have h3 := h.nu
 have e1 : w'.heap[w0.heap.size]? = some (.cells pv TP (0, 0)) := (kt.block _ _ _ _ h.bp (by decide)).trans h.bp
 have e2 : w'.heap[NV]? = some (.cells xs.toArray T4 (0, 0)) := (kt.block _ _ _ _ h.hv (by decide)).trans h.hv
 have e3 : w'.heap[NU]? = some (.cells us.toArray TU (0, 0)) := (kt.block _ _ _ _ h.hu (by decide)).trans h.hu
 have kt2 : Kt T4 w' (w'.setCell ⟨NV, l, none⟩ x') := Kt.set e2 x'
 have hon : On w0 w' := h.on.fw f (fun g hg => ((h.vs.own l x hx).lt g hg).1)
 have hv2 : Vs w0.heap.size w' (xs.set l x') (updF V l L) := h.vs.upd (fun l' y hne hy => own_fw (h.vs.own l' y hy) f (fun g hg => h.vs.apart l' l y x g hne hy hx hg)) ho (fun l' y g hne hy hg => by
  have hlt := ((h.vs.own l' y hy).lt g hg).2
  rcases (f 0).next with e | e
  ·
   rw [e]
   exact h.vs.apart l' l y x g hne hy hx hg
  ·
   intro e'
   have := e g e'
   omega)
 exact ⟨hon.setNew (by omega) _, (kt2.block _ _ _ _ e1 (by decide)).trans e1, heap_put e2 l x', (kt2.block _ _ _ _ e3 (by decide)).trans e3, by rw [List.length_set]; exact h.lx, h.lu, hv2.set e2 tJ7 x', fun t ht => by
  obtain ⟨u, a1, a2⟩ := h.un t ht
  exact ⟨u, a1, (a2.kt kt tJ1 tJ2).kt kt2 tJ3 tJ4⟩, h1, h3⟩
end
/-- Ahead of the unfoldings. -/
structure A1 (w0 : World) (NV : Nat) (pv : Array Value) (w : World) (xs : List Value) (V : Nat → List Int) : Prop where
 on : On w0 w
 bp : w.heap[w0.heap.size]? = some (.cells pv TP (0, 0))
 hv : w.heap[NV]? = some (.cells xs.toArray T4 (0, 0))
 lx : xs.length = 4
 vs : Vs w0.heap.size w xs V
 nv : w0.heap.size < NV
theorem A1.put {w0 w : World} {NV l : Nat} {pv : Array Value} {xs : List Value} {V : Nat → List Int} (h : A1 w0 NV pv w xs V) (y : Int) :
  A1 w0 NV pv ((w.alloc (.cells #[.int .i64 y] 2)).setCell ⟨NV, l, none⟩ (.slice (some ⟨w.heap.size, 0, none⟩) 1 1)) (xs.set l (.slice (some ⟨w.heap.size, 0, none⟩) 1 1)) (updF V l [y]) := by
 have h1 := h.nv
 have k : On w (w.alloc (.cells #[.int .i64 y] 2)) := (On.refl w).alloc _
 have e1 := (k.block _ (lt_of_block h.bp)).trans h.bp
 have e2 := (k.block _ (lt_of_block h.hv)).trans h.hv
 have kt2 : Kt T4 _ ((w.alloc (.cells #[.int .i64 y] 2)).setCell ⟨NV, l, none⟩ (.slice (some ⟨w.heap.size, 0, none⟩) 1 1)) := Kt.set e2 _
 have hv2 : Vs w0.heap.size (w.alloc (.cells #[.int .i64 y] 2)) (xs.set l (.slice (some ⟨w.heap.size, 0, none⟩) 1 1)) (updF V l [y]) := h.vs.upd (fun l' x _ hx => own_on (h.vs.own l' x hx) k) (own_one w #[.int .i64 y] _ 1 _ rfl h.on.size) (fun l' x g _ hx hg => by
  have := ((h.vs.own l' x hx).lt g hg).2
  simp only [Value.ownBlock, Option.some.injEq, ne_eq]
  omega)
 exact ⟨(h.on.trans k).setNew (by omega) _, (kt2.block _ _ _ _ e1 (by decide)).trans e1, heap_put e2 l _, by rw [List.length_set]; exact h.lx, hv2.set e2 tJ7 _, h1⟩
theorem A1.as {w0 w : World} {NV : Nat} {pv : Array Value} {xs : List Value} {V : Nat → List Int} (h : A1 w0 NV pv w xs V) (UN : Nat → List (List EvT)) (u : Value) :
  AS w0 NV w.heap.size pv (w.alloc (.cells #[u, u, u, u] TU)) xs [u, u, u, u] V UN 0 := by
 have k : On w (w.alloc (.cells #[u, u, u, u] TU)) := (On.refl w).alloc _
 exact ⟨h.on.trans k, (k.block _ (lt_of_block h.bp)).trans h.bp, (k.block _ (lt_of_block h.hv)).trans h.hv, heap_alloc_new w _, h.lx, rfl, h.vs.on k, fun t ht => by omega, h.nv, lt_of_block h.hv⟩
theorem A1.nil {w : World} (pv : Array Value) : A1 w (w.heap.size + 1) pv ((w.alloc (.cells pv TP)).alloc (.cells #[.slice none 0 0, .slice none 0 0, .slice none 0 0, .slice none 0 0] T4)) [.slice none 0 0, .slice none 0 0, .slice none 0 0, .slice none 0 0] (fun _ => []) := by
 have hall : ∀ (l : Nat) (x : Value), [Value.slice none 0 0, .slice none 0 0, .slice none 0 0, .slice none 0 0][l]? = some x → x = .slice none 0 0 := fun l x h => by
  have := List.mem_of_getElem? h
  simpa using this
 have e1 : (w.alloc (.cells pv TP)).heap[w.heap.size]? = some (.cells pv TP (0, 0)) := heap_alloc_new w _
 have k : On (w.alloc (.cells pv TP)) ((w.alloc (.cells pv TP)).alloc (.cells #[.slice none 0 0, .slice none 0 0, .slice none 0 0, .slice none 0 0] T4)) := (On.refl _).alloc _
 refine ⟨((On.refl w).alloc _).alloc _, (k.block _ (lt_of_block e1)).trans e1, ?_, rfl, ⟨fun l x h => ?_, fun l l' x x' g _ h _ hg => ?_⟩, by omega⟩
 ·
  have := heap_alloc_new (w.alloc (.cells pv TP)) (.cells #[.slice none 0 0, .slice none 0 0, .slice none 0 0, .slice none 0 0] T4)
  rw [World.size_alloc] at this
  exact this
 ·
  rw [hall l x h]
  exact World.ownsRow_nil _ _ _ _
 ·
  rw [hall l x h] at hg
  cases hg
/-- What holds of every unfolding holds of each row. -/
theorem th_all (P : List EvT → Prop) (L : List InsT) (t : Int) (V : Nat → List Int) (most : Nat) (hU : ∀ rs, P (unfP L t rs).1) : ∀ (n : Nat) (rs : List Int) (out : List (List EvT)), (∀ r ∈ out, P r) → ∀ r ∈ thP L t V most n rs out, P r
 | 0, _, _, h => h
 | n + 1, rs, out, h => by
  rw [thP]
  split
  ·
   exact h
  ·
   split
   ·
    have : ∀ (Y : List Int) (o : List (List EvT)), (∀ r ∈ o, P r) → ∀ r ∈ Y.foldl (fun o y => thP L t V most n (rs ++ [y]) o) o, P r := by
     intro Y
     induction Y with
     | nil => exact fun o h => h
     | cons y Y ih => exact fun o h => ih _ (th_all P L t V most hU n (rs ++ [y]) o h)
    exact this _ out h
   ·
    intro r hr
    simp only [List.mem_append, List.mem_singleton] at hr
    rcases hr with hr | rfl
    ·
     exact h r hr
    ·
     exact hU rs
/-- What is written lies at locations that are there. -/
theorem unfN_locs (m : Nat) (L : List InsT) (t : Int) (hok : locsOk m L) : ∀ (n : Nat) (l : LocT) (i : Nat) (rs : List Int), ∀ e ∈ (unfN n L t l i rs).1, wrsB e.k = true → 0 ≤ e.l ∧ e.l < m
 | 0, l, i, rs, e, he => by rw [unfN] at he; simp at he
 | n + 1, l, i, rs, e, he => by
  cases hx : nextP L l with
  | none => rw [unf_none hx] at he; simp at he
  | some x =>
   cases hv : valP x rs with
   | none => rw [unf_more hx hv] at he; simp at he
   | some p =>
    obtain ⟨v, r⟩ := p
    rw [unf_some hx hv] at he
    simp only [List.mem_cons] at he
    rcases he with rfl | he
    ·
     have hmem : x ∈ L := by
      unfold nextP at hx
      split at hx
      ·
       split at hx
       ·
        rename_i y hy
        split at hx
        ·
         rw [← Option.some.inj hx]; exact List.mem_of_getElem? hy
        ·
         cases hx
       ·
        cases hx
      ·
       cases hx
     have hL := hok x hmem
     unfold atP doneP swapP wrsB
     unfold hasLB at hL
     cases h2 : (x.k == 2) with
     | true => simp
     | false =>
      cases h1 : (x.k == 1) with
      | true =>
       rw [h1] at hL
       simp only [if_true, Bool.false_eq_true, if_false]
       intro _
       exact hL rfl
      | false =>
       cases h4 : (x.k == 4) with
       | true =>
        rw [h1, h2, h4] at hL
        simp only [if_true, Bool.false_eq_true, if_false]
        intro _
        have := hL rfl
        split <;> exact this
       | false => simp
    ·
     exact unfN_locs m L t hok n _ _ _ e he
end Go.Proofs.YtioiabfheeglgaaGreatDoor

namespace Go.Proofs.YtioiabfheeglgaaGreatDoor
open Go.RowKit

/-- Rows of unfoldings by some values. -/
def FullU (LL : List (List InsT)) (V : Nat → List Int) (UN : Nat → List (List EvT)) (k : Nat) : Prop := (∀ t : Nat, t < k → UN t = thP (threadP LL t) t V 3000 ((threadP LL t).length + 1) [] []) ∧ ∀ t, (UN t).length ≤ 3000
/-- What the document's All tells. -/
def AllP (m : Nat) (IN : List Int) (LL : List (List InsT)) (most : Nat) (L : List ExT) : Prop := ∃ V UN, FullU LL V UN LL.length ∧ runP most [] (chP m UN LL.length 0 (initsP m IN)) = some L
/-- What the call leaves. -/
def RaPost (w : World) (m : Nat) (IN : List Int) (LL : List (List InsT)) (most : Nat) (e : Ending) (w' : World) : Prop := On w w' ∧ (e = .returned (.tuple #[.slice none 0 0, .bool false]) ∨ ∃ v L, e = .returned (.tuple #[v, .bool true]) ∧ OwX w' w.heap.size v L ∧ AllP m IN LL most L)
theorem full_rows {LL : List (List InsT)} {V : Nat → List Int} {UN : Nat → List (List EvT)} {k m : Nat} (h : FullU LL V UN k) (h10 : ∀ L ∈ LL, L.length ≤ 10) (hok : ∀ L ∈ LL, locsOk m L) : ∀ t : Nat, t < k → ∀ r ∈ UN t, r.length ≤ 10 ∧ ∀ e ∈ r, wrsB e.k = true → 0 ≤ e.l ∧ e.l < m := by
 intro t ht
 rw [h.1 t ht]
 have hT : threadP LL t = [] ∨ threadP LL t ∈ LL := by
  unfold threadP
  rw [if_pos (by omega), Int.toNat_natCast, List.getD_eq_getElem?_getD]
  cases hq : LL[t]? with
  | none => exact Or.inl rfl
  | some L => exact Or.inr (List.mem_of_getElem? hq)
 refine th_all _ _ _ _ _ (fun rs => ⟨?_, ?_⟩) _ _ _ (fun r hr => by simp at hr)
 ·
  have := unf_fuel (threadP LL t) t rs
  rcases hT with h | h
  ·
   rw [h] at this ⊢; simp at this; rw [this]; exact Nat.zero_le _
  ·
   have := h10 _ h; omega
 ·
  refine unfN_locs m _ _ ?_ _ _ _ _
  rcases hT with h | h
  ·
   rw [h]; exact fun x hx => by simp at hx
  ·
   exact hok _ h
theorem cap10 : ∀ m t, capS (fun _ => 10) m t = m * 10
 | 0, _ => rfl
 | m + 1, t => by rw [capS, cap10 m (t + 1)]; omega
def VBd (V : Nat → List Int) (B : Nat) : Prop := (∀ l, (V l).length ≤ B) ∧ ∀ l, 4 ≤ l → (V l).length = 0
def VC (V V0 : Nat → List Int) (c : Nat) : Prop := (∀ l, (V l).length ≤ (V0 l).length + c) ∧ ∀ l, 4 ≤ l → (V l).length = 0
theorem VC.le {V V0 : Nat → List Int} {c c' : Nat} (h : VC V V0 c) (k : c ≤ c') : VC V V0 c' := ⟨fun l => by have := h.1 l; omega, h.2⟩
theorem VC.zero {V : Nat → List Int} {c : Nat} (h : ∀ l, 4 ≤ l → (V l).length = 0) : VC V V c := ⟨fun l => by omega, h⟩
theorem vlen_upd {V V0 : Nat → List Int} {c l : Nat} {y : Int} (h : VC V V0 c) (hl : l < 4) : VC (updF V l (withP (V l) y)) V0 (c + 1) := by
 refine ⟨?_, fun i hi => by rw [upd_far V _ (by omega)]; exact h.2 i hi⟩
 intro i
 have h1 := h.1 i
 by_cases e : i = l
 ·
  subst e
  rw [upd_at]
  have := (with_len (V i) y).2
  omega
 ·
  rw [upd_far V _ e]
  omega
theorem four {xs : List Value} (h : xs.length = 4) : ∃ x0 x1 x2 x3, xs = [x0, x1, x2, x3] := by
 match xs, h with
 | [x0, x1, x2, x3], _ => exact ⟨x0, x1, x2, x3, rfl⟩
theorem AS.slices {w0 w : World} {NV NU k : Nat} {pv : Array Value} {xs us : List Value} {V : Nat → List Int} {UN : Nat → List (List EvT)} (h : AS w0 NV NU pv w xs us V UN k) : ∃ b0 d0 b1 d1 b2 d2 b3 d3, xs = [.slice b0 (V 0).length d0, .slice b1 (V 1).length d1, .slice b2 (V 2).length d2, .slice b3 (V 3).length d3] := by
 obtain ⟨x0, x1, x2, x3, rfl⟩ := four h.lx
 obtain ⟨b0, d0, rfl⟩ := own_slice (h.vs.own 0 x0 rfl)
 obtain ⟨b1, d1, rfl⟩ := own_slice (h.vs.own 1 x1 rfl)
 obtain ⟨b2, d2, rfl⟩ := own_slice (h.vs.own 2 x2 rfl)
 obtain ⟨b3, d3, rfl⟩ := own_slice (h.vs.own 3 x3 rfl)
 exact ⟨b0, d0, b1, d1, b2, d2, b3, d3, rfl⟩
theorem AS.bP {w0 w : World} {NV NU k : Nat} {pv : Array Value} {xs us : List Value} {V : Nat → List Int} {UN : Nat → List (List EvT)} (h : AS w0 NV NU pv w xs us V UN k) : Bk w w0.heap.size pv := ⟨_, h.bp⟩
theorem AS.bV {w0 w : World} {NV NU k : Nat} {pv : Array Value} {xs us : List Value} {V : Nat → List Int} {UN : Nat → List (List EvT)} (h : AS w0 NV NU pv w xs us V UN k) : Bk w NV xs.toArray := ⟨_, h.hv⟩
theorem AS.bU {w0 w : World} {NV NU k : Nat} {pv : Array Value} {xs us : List Value} {V : Nat → List Int} {UN : Nat → List (List EvT)} (h : AS w0 NV NU pv w xs us V UN k) : Bk w NU us.toArray := ⟨_, h.hu⟩
set_option maxHeartbeats 4000000 in
set_option maxRecDepth 8000 in
theorem rall_is (hC : CmpIs) (LT : List UInt8) (IN : List Int) (LL : List (List InsT)) (most : Nat) (vp : Value) (w : World) (h : ProgFl w vp LT IN LL) (he : IN.length = LT.length) (hlo : LT.length ≤ 4) (h4 : LL.length ≤ 4) (h10 : ∀ L ∈ LL, L.length ≤ 10) (hf : ∀ L ∈ LL, fineL L) (hok : ∀ L ∈ LL, locsOk LT.length L) (hm : most ≤ 100000) :
  Calls Tryz.prog 5 #[vp, .int .i64 most] w (RaPost w LT.length IN LL most) := by
 have hp := h.rd
 have hin := fun W (k : On w W) => rinits_is LT IN LL vp W (h.on k) (by omega) he
 have hrds := fun W (k : On w W) => reads_is LL vp W (hp.on k) h4 h10
 obtain ⟨a1, c1, a2, c2, a3, c3, rfl, _, r2, _⟩ := h.ex
 have HIN : Hid (Rd intC 1 w (.slice a2 IN.length c2) IN) := r2
 have HLE : Hid (IN.length = LT.length) := he
 have HTH : Hid (∀ (t : Nat) (V : Nat → List Int) (W : World) (xs : Array Value), t < LL.length → (∀ l, (V l).length ≤ 1000000) → On w W → (∃ x0 x1 x2 x3, xs = #[x0, x1, x2, x3]) → (∀ l, l < LT.length → ∃ x, xs[l]? = some x ∧ RdT 2 intC 1 W x (V l)) →
   Calls Tryz.prog 14 #[.agg #[.slice a1 LT.length c1, .slice a2 IN.length c2, .slice a3 LL.length c3], .int .i64 t, .slice none 0 0, .agg xs, .slice none 0 0, .int .i64 3000] W fun e w' => ∃ v', e = .returned v' ∧ RdE2 w' v' (thP (threadP LL t) t V 3000 ((threadP LL t).length + 1) [] []) ∧ On W w' ∧ ∃ a c, v' = .slice a (thP (threadP LL t) t V 3000 ((threadP LL t).length + 1) [] []).length c) := fun t V W xs ht hV k hxs hvals => by
  have hmem : threadP LL t ∈ LL := by
   unfold threadP
   rw [if_pos (by omega), Int.toNat_natCast, List.getD_eq_getElem?_getD, List.getElem?_eq_getElem ht]
   exact List.getElem_mem ht
  have hl := h10 _ hmem
  refine (th_is LL LT.length t W.heap.size 3000 V w _ hp hf hlo (hok _ hmem) k.size (by omega) hV (by omega) ((threadP LL t).length + 1) [] none 0 xs [] (.slice none 0 0) W (by omega) (by simp; omega) k (RdT.nil _ _ _ _) hxs hvals (OwE.nil _ _) (Nat.le_refl _)).mono ?_
  rintro e w' ⟨v', he, hO, hF, _⟩
  exact ⟨v', he, hO.rd, (On.refl W).fw hF (fun g hg => by cases hg), hO.slice⟩
 have HCH : Hid (∀ (UN : Nat → List (List EvT)) (V : Nat → List Int) (us : Array Value) (N : Nat) (ae : Option Addr) (ce : Nat) (W : World), FullU LL V UN LL.length → On w W → w.heap.size ≤ N → Un LL.length W us UN → W.heap[N]? = some (.cells #[.slice none 0 0] TS (0, 0)) → RdT 58 evC 6 W (.slice ae LT.length ce) (initsP LT.length IN) →
   Calls Tryz.prog 17 #[.agg #[.slice a1 LT.length c1, .slice a2 IN.length c2, .slice a3 LL.length c3], .int .i64 0, .slice ae LT.length ce, .agg us, .pointer (some ⟨N, 0, none⟩), .int .i64 most] W (Post N w.heap.size most [] (chP LT.length UN LL.length 0 (initsP LT.length IN)) (.slice none 0 0) W)) := fun UN V us N ae ce W hFU k hN hU hcell hE => by
  have hrows := full_rows hFU h10 hok
  have hlen := inits_len LT.length IN
  have := ch_is hC LT.length most N w.heap.size LL.length hm (by omega) h4 UN (fun _ => 10) (fun t ht r hr => (hrows t ht r hr).1) (fun t => by have := hFU.2 t; omega) LL.length 0 (initsP LT.length IN) ae ce _ us [] (.slice none 0 0) W ⟨a1, c1, a2, IN.length, c2, a3, c3, rfl⟩ (by omega) (by rw [cap10, hlen]; omega) (by rw [hlen]; exact hE) hU ⟨hcell, hN, OwX.nil _ _⟩ (Nat.zero_le _) k.size
  rw [hlen] at this
  exact this
 have HRW : Hid (∀ (V : Nat → List Int) (UN : Nat → List (List EvT)) (k : Nat), FullU LL V UN k → ∀ t : Nat, t < k → ∀ r ∈ UN t, r.length ≤ 10 ∧ ∀ e ∈ r, wrsB e.k = true → 0 ≤ e.l ∧ e.l < LT.length) := fun V UN k h => full_rows h h10 hok
 have hRN : rdN LL ≤ 40 := by have := rdN_le 10 LL h10; omega
 obtain ⟨RN, hRNe⟩ : ∃ RN, RN = rdN LL := ⟨_, rfl⟩
 rw [← hRNe] at hrds hRN
 obtain ⟨Q, hQ⟩ : ∃ Q : Ending → World → Prop, Q = RaPost w LT.length IN LL most := ⟨_, rfl⟩
 rw [← hQ]
 have HQ0 : Hid (∀ w', On w w' → Q (.returned (.tuple #[.slice none 0 0, .bool false])) w') := fun w' k => by rw [hQ]; exact ⟨k, Or.inl rfl⟩
 have HQ1 : Hid (∀ w' v L V UN, On w w' → OwX w' w.heap.size v L → FullU LL V UN LL.length → runP most [] (chP LT.length UN LL.length 0 (initsP LT.length IN)) = some L → Q (.returned (.tuple #[v, .bool true])) w') := fun w' v L V UN k h1 h2 h3 => by rw [hQ]; exact ⟨k, Or.inr ⟨v, L, rfl, h1, V, UN, h2, h3⟩⟩
 obtain ⟨m, hme⟩ : ∃ m, m = LT.length := ⟨_, rfl⟩
 obtain ⟨thr, hte⟩ : ∃ thr, thr = LL.length := ⟨_, rfl⟩
 rw [he] at HIN hin hrds HTH HCH ⊢
 rw [← hme] at HIN HLE hlo hin hrds HTH HCH HRW HQ1 ⊢
 rw [← hte] at h4 hin hrds HTH HCH HQ1 ⊢
 have HA0 : Hid (A1 w (w.heap.size + 1) #[.slice a1 m c1, .slice a2 m c2, .slice a3 thr c3] ((w.alloc (.cells #[.slice a1 m c1, .slice a2 m c2, .slice a3 thr c3] TP)).alloc (.cells #[.slice none 0 0, .slice none 0 0, .slice none 0 0, .slice none 0 0] T4)) [.slice none 0 0, .slice none 0 0, .slice none 0 0, .slice none 0 0] (fun _ => [])) := A1.nil #[.slice a1 m c1, .slice a2 m c2, .slice a3 thr c3]
 obtain ⟨W2, hW2⟩ : ∃ W2, W2 = (w.alloc (.cells #[.slice a1 m c1, .slice a2 m c2, .slice a3 thr c3] TP)).alloc (.cells #[.slice none 0 0, .slice none 0 0, .slice none 0 0, .slice none 0 0] T4) := ⟨_, rfl⟩
 rw [← hW2] at HA0
 have HV0 : Hid (VBd (fun _ => []) 1) := ⟨fun l => Nat.zero_le _, fun l _ => rfl⟩
 clear h he hp r2 hQ hme hte hf hok hC hRNe h10
 go_enter Tryz.func5, Tryz.ntmps5
 go_upto_region 2 with fail
 rw [← hW2]
 clear hW2
 go_wp2
 go_loopg [7] m (fun gg s7 wr => ∃ (i : Nat) (xs : List Value) (V : Nat → List Int), i ≤ m ∧ gg = m - i ∧ s7 = .int .i64 i ∧ Hid (A1 w (w.heap.size + 1) #[.slice a1 m c1, .slice a2 m c2, .slice a3 thr c3] wr xs V) ∧ Hid (VBd V 1))
 case atStart => exact ⟨0, _, _, Nat.zero_le _, rfl, rfl, HA0, HV0⟩
 case round =>
  clear HA0 HV0
  obtain ⟨i, xs, V, hi, hg, rfl, HA, HV⟩ := hrel
  have BP : Bk wr w.heap.size #[.slice a1 m c1, .slice a2 m c2, .slice a3 thr c3] := ⟨_, HA.out.bp⟩
  have p0 := BP.at (i := 0) rfl
  have p1 := BP.at (i := 1) rfl
  have p2 := BP.at (i := 2) rfl
  have pl := BP.lt
  rcases Nat.lt_or_ge i m with hlt | hge
  ·
   obtain ⟨y, hy⟩ : ∃ y, IN[i]? = some y := ⟨_, List.getElem?_eq_getElem (by rw [HLE.out]; exact hlt)⟩
   have hRr := HIN.out.on HA.out.on
   rw [← HLE.out] at hRr
   obtain ⟨g, off, rfl, hgw, hcell⟩ := hRr.at hy
   have q0 : wr.cell? ⟨g, off + i, none⟩ = some (.int .i64 y) := by have := hcell 0 _ rfl; simpa using this
   obtain ⟨x, hx⟩ : ∃ x, xs[i]? = some x := ⟨_, List.getElem?_eq_getElem (by rw [HA.out.lx]; omega)⟩
   have BV : Bk wr (w.heap.size + 1) xs.toArray := ⟨_, HA.out.hv⟩
   have z0 := BV.at (i := i) (show xs.toArray[i]? = some x by simpa using hx)
   have zf := BV.fr i
   have zl := BV.lt
   have hov : IntKind.i64.wrap ((i : Int) + 1) = ((i + 1 : Nat) : Int) := by rw [wrap_small]; omega; omega; omega
   have hib : (i : Int) < (m : Int) := by omega
   have hi4 : (i : Int) < 4 := by omega
   have hA2 := HA.out.put (l := i) y
   rw [World.setCell_alloc_past _ _ _ _ zl] at hA2
   have HA2 : Hid (A1 w (w.heap.size + 1) _ _ _ _) := hA2
   clear hA2
   have HV2 : Hid (VBd (updF V i [y]) 1) := ⟨fun l => by
    by_cases e : l = i
    ·
     subst e; rw [upd_at]; exact Nat.le_refl _
    ·
     rw [upd_far V _ e]; exact HV.out.1 l, fun l hl => by rw [upd_far V _ (by omega)]; exact HV.out.2 l hl⟩
   clear hRr hcell hy hx
   go_wp2
   go_roundg (m - (i + 1))
   case measure => omega
   case rel => exact ⟨i + 1, _, _, hlt, rfl, rfl, HA2, HV2⟩
  ·
   obtain rfl : m = i := by omega
   obtain ⟨W3, hW3⟩ : ∃ W3, W3 = wr.alloc (.cells #[.slice none 0 0, .slice none 0 0, .slice none 0 0, .slice none 0 0] TU) := ⟨_, rfl⟩
   have HAS : Hid (AS w (w.heap.size + 1) wr.heap.size #[.slice a1 m c1, .slice a2 m c2, .slice a3 thr c3] W3 xs [.slice none 0 0, .slice none 0 0, .slice none 0 0, .slice none 0 0] V (fun _ => []) 0) := by
    show AS _ _ _ _ _ _ _ _ _ _
    rw [hW3]
    exact HA.out.as _ _
   have HB0 : Hid (VBd V 120200) := ⟨fun l => by have := HV.out.1 l; omega, HV.out.2⟩
   clear HA BP
   go_upto_region 7 with fail
   rw [← hW3]
   clear hW3 p0 p1 p2 pl hg hge HV
   generalize wr.heap.size = NU at *
   have HTN : Hid (∃ V' : Nat → List Int, (0 : Nat) = 0 ∨ FullU LL V' (fun _ => []) thr) := ⟨fun _ => [], Or.inl rfl⟩
   go_wp2
   go_loopg [9] (RN + 1) (fun gg s9 wq => ∃ (tn : Nat) (xs us : List Value) (V : Nat → List Int) (UN : Nat → List (List EvT)) (kk : Nat), tn ≤ RN + 1 ∧ gg = RN + 1 - tn ∧ s9 = .int .i64 tn ∧ Hid (AS w (w.heap.size + 1) NU #[.slice a1 m c1, .slice a2 m c2, .slice a3 thr c3] wq xs us V UN kk) ∧ Hid (VBd V 120200) ∧ Hid (tn = 0 ∨ thr = kk ∧ ∃ V', FullU LL V' UN thr))
   case atStart => exact ⟨0, xs, _, V, _, 0, Nat.zero_le _, rfl, rfl, HAS, HB0, Or.inl rfl⟩
   case round =>
    clear HAS HB0 HTN
    clear xs V
    obtain ⟨tn, xs, us, V, UN, kk, htn, hg, rfl, HAS, HB0, HTN⟩ := hrel
    have hrd := hrds wr HAS.out.on
    have BP := HAS.out.bP
    have p0 := BP.at (i := 0) rfl
    have p1 := BP.at (i := 1) rfl
    have p2 := BP.at (i := 2) rfl
    have pl := BP.lt
    rcases Nat.lt_or_ge RN tn with hgt | hle
    ·
     have hto : decide ((tn : Int) ≤ (RN : Int)) = false := by simpa using (by omega : ¬ (tn : Int) ≤ (RN : Int))
     go_wp2_with fail
     refine hrd.mono ?_
     rintro _ w4 ⟨rfl, k4⟩
     have hfin : thr = kk ∧ ∃ V', FullU LL V' UN thr := by
      rcases HTN.out with h | h
      ·
       omega
      ·
       exact h
     obtain ⟨hkk, V1, hfull⟩ := hfin
     subst hkk
     have HAF : Hid (AS w (w.heap.size + 1) NU #[.slice a1 m c1, .slice a2 m c2, .slice a3 thr c3] w4 xs us V UN thr) := HAS.out.go k4
     have HFULL : Hid (FullU LL V1 UN thr) := hfull
     clear HAS hfull HTN HB0 hrd p0 p1 p2 pl BP
     obtain ⟨u0, u1, u2, u3, rfl⟩ := four HAF.out.lu
     obtain ⟨W5, hW5⟩ : ∃ W5, W5 = w4.alloc (.cells #[.slice none 0 0] TS) := ⟨_, rfl⟩
     have k5 : On w4 W5 := by rw [hW5]; exact (On.refl w4).alloc _
     have e5 : W5.heap[w4.heap.size]? = some (.cells #[.slice none 0 0] TS (0, 0)) := by rw [hW5]; exact heap_alloc_new w4 _
     have HA5 : Hid (AS w (w.heap.size + 1) NU #[.slice a1 m c1, .slice a2 m c2, .slice a3 thr c3] W5 xs [u0, u1, u2, u3] V UN thr) := HAF.out.go k5
     have HE5 : Hid (W5.heap[w4.heap.size]? = some (.cells #[.slice none 0 0] TS (0, 0))) := e5
     have hN5 : w.heap.size ≤ w4.heap.size := HAF.out.on.size
     have hin5 := hin W5.drew (HA5.out.on.trans (On.drew (On.refl _)))
     have S0 : Bk W5.drew w.heap.size #[.slice a1 m c1, .slice a2 m c2, .slice a3 thr c3] ∧ Bk W5.drew NU #[u0, u1, u2, u3] := ⟨HA5.out.bP, HA5.out.bU⟩
     clear e5 k5 HAF
     go_upto_region 33 with fail
     rw [← hW5]
     clear hW5
     generalize w4.heap.size = NO at *
     refine region_fz (fun W => Bk W w.heap.size #[.slice a1 m c1, .slice a2 m c2, .slice a3 thr c3] ∧ Bk W NU #[u0, u1, u2, u3]) [] 7 (by kernel_rfl) rfl ?_
     refine fz_take 0 (v := ?_) rfl (by kernel_rfl) (by kernel_rfl) (by kernel_rfl) (by kernel_rfl) (fun _ _ _ h => h) rfl ?_ S0 ?_
     rotate_left
     ·
      intro W hW
      have y0 := hW.1.at (i := 0) rfl
      have y1 := hW.1.at (i := 1) rfl
      have y2 := hW.1.at (i := 2) rfl
      have yl := hW.1.lt
      have x0 := hW.2.at (i := 0) rfl
      have x1 := hW.2.at (i := 1) rfl
      have x2 := hW.2.at (i := 2) rfl
      have x3 := hW.2.at (i := 3) rfl
      have xl := hW.2.lt
      go_simp
      (try with_reducible rfl)
     simp only [zpu, zsa, zsz, zss]
     refine fz_take 1 (v := ?_) rfl (by kernel_rfl) (by kernel_rfl) (by kernel_rfl) (by kernel_rfl) (fun _ _ _ h => h) rfl ?_ S0 ?_
     rotate_left
     ·
      intro W hW
      have y0 := hW.1.at (i := 0) rfl
      have y1 := hW.1.at (i := 1) rfl
      have y2 := hW.1.at (i := 2) rfl
      have yl := hW.1.lt
      have x0 := hW.2.at (i := 0) rfl
      have x1 := hW.2.at (i := 1) rfl
      have x2 := hW.2.at (i := 2) rfl
      have x3 := hW.2.at (i := 3) rfl
      have xl := hW.2.lt
      go_simp
      (try with_reducible rfl)
     simp only [zpu, zsa, zsz, zss]
     refine fz_take 3 (v := ?_) rfl (by kernel_rfl) (by kernel_rfl) (by kernel_rfl) (by kernel_rfl) (fun _ _ _ h => h) rfl ?_ S0 ?_
     rotate_left
     ·
      intro W hW
      have y0 := hW.1.at (i := 0) rfl
      have y1 := hW.1.at (i := 1) rfl
      have y2 := hW.1.at (i := 2) rfl
      have yl := hW.1.lt
      have x0 := hW.2.at (i := 0) rfl
      have x1 := hW.2.at (i := 1) rfl
      have x2 := hW.2.at (i := 2) rfl
      have x3 := hW.2.at (i := 3) rfl
      have xl := hW.2.lt
      go_simp
      (try with_reducible rfl)
     simp only [zpu, zsa, zsz, zss]
     refine fz_take 4 (v := ?_) rfl (by kernel_rfl) (by kernel_rfl) (by kernel_rfl) (by kernel_rfl) (fun _ _ _ h => h) rfl ?_ S0 ?_
     rotate_left
     ·
      intro W hW
      have y0 := hW.1.at (i := 0) rfl
      have y1 := hW.1.at (i := 1) rfl
      have y2 := hW.1.at (i := 2) rfl
      have yl := hW.1.lt
      have x0 := hW.2.at (i := 0) rfl
      have x1 := hW.2.at (i := 1) rfl
      have x2 := hW.2.at (i := 2) rfl
      have x3 := hW.2.at (i := 3) rfl
      have xl := hW.2.lt
      go_simp
      (try with_reducible rfl)
     simp only [zpu, zsa, zsz, zss]
     refine fz_one 2 rfl rfl (by kernel_rfl) (fun K hK => ?_)
     go_simp
     refine hin5.mono ?_
     rintro _ w6 ⟨ai, ci, rfl, hI6, k6⟩
     have S6 : Bk w6 w.heap.size #[.slice a1 m c1, .slice a2 m c2, .slice a3 thr c3] ∧ Bk w6 NU #[u0, u1, u2, u3] := ⟨S0.1.on k6, S0.2.on k6⟩
     have kk6 : On W5 w6 := (On.drew (On.refl W5)).trans k6
     have HA6 : Hid (AS w (w.heap.size + 1) NU #[.slice a1 m c1, .slice a2 m c2, .slice a3 thr c3] w6 xs [u0, u1, u2, u3] V UN thr) := HA5.out.go kk6
     have hch := HCH.out UN V1 #[u0, u1, u2, u3] NO ai ci w6 HFULL.out HA6.out.on hN5 ⟨⟨u0, u1, u2, u3, rfl⟩, fun t ht => by
      obtain ⟨u, e1, e2⟩ := HA6.out.un t ht
      exact ⟨u, by simpa using e1, e2⟩⟩ ((kk6.block _ (lt_of_block HE5.out)).trans HE5.out) (RdT.own evC_len (by rw [inits_len]; exact hI6))
     refine hK.out _ _ (fun _ => S6) ?_
     clear hK hI6 hin5
     obtain ⟨CC, hCC⟩ : ∃ CC, CC = chP m UN thr 0 (initsP m IN) := ⟨_, rfl⟩
     have HCC : Hid (CC = chP m UN thr 0 (initsP m IN)) := hCC
     rw [← hCC] at hch
     clear hCC
     have hNP : NO ≠ w.heap.size ∧ NO ≠ NU := by
      have e1 := ((kk6.block _ (lt_of_block HE5.out)).trans HE5.out)
      have e2 := HA6.out.bp
      have e3 := HA6.out.hu
      constructor
      ·
       intro e; rw [e, e2] at e1; simp only [Option.some.injEq, Obj.cells.injEq] at e1; exact absurd e1.2.1 (by decide)
      ·
       intro e; rw [e, e3] at e1; simp only [Option.some.injEq, Obj.cells.injEq] at e1; exact absurd e1.2.1 (by decide)
     refine fz_one 5 rfl rfl (by kernel_rfl) (fun K hK => ?_)
     go_simp
     refine hch.mono ?_
     intro e7 w7 hPP
     have eP := hPP.1
     obtain ⟨_, v7, L7, hO7, hL7, hF7, hK7⟩ := hPP
     have S7 : Bk w7 w.heap.size #[.slice a1 m c1, .slice a2 m c2, .slice a3 thr c3] ∧ Bk w7 NU #[u0, u1, u2, u3] := ⟨S6.1.fx hF7 (fun e => hNP.1 e.symm) (fun e => by cases e), S6.2.fx hF7 (fun e => hNP.2 e.symm) (fun e => by cases e)⟩
     have HON7 : Hid (On w w7) := HA6.out.on.fx hF7 hN5 (fun g hg => by cases hg)
     have HOUT : Hid (Out NO w.heap.size w7 v7 L7) := hO7
     have HL7 : Hid (∀ L2, runP most [] CC = some L2 → L7 = L2) := hL7
     obtain ⟨bb, hbb⟩ : ∃ bb, bb = (runP most [] CC).isSome := ⟨_, rfl⟩
     rw [← hbb] at eP
     subst eP
     refine hK.out _ _ (fun _ => S7) ?_
     clear hK hF7 hK7 hO7 hL7 hch
     refine fz_take 6 (v := ?_) rfl (by kernel_rfl) (by kernel_rfl) (by kernel_rfl) (by kernel_rfl) (fun _ _ _ h => h) rfl ?_ S7 ?_
     rotate_left
     ·
      intro W hW
      go_simp
      (try with_reducible rfl)
     simp only [zpu, zsa, zsz, zss]
     refine fz_done (by kernel_rfl) (NoPanic.normal ?_)
     cases hrn : runP most [] CC with
     | none =>
      rw [hrn] at hbb
      obtain rfl : bb = false := hbb
      clear hrn
      go_wp2
      exact HQ0.out _ HON7.out
     | some L2 =>
      rw [hrn] at hbb
      obtain rfl : bb = true := hbb
      have HLL : Hid (L7 = L2) := HL7.out L2 hrn
      have HRUN : Hid (runP most [] CC = some L7) := by show _ = _; rw [HLL.out]; exact hrn
      have BO : Bk w7 NO #[v7] := HOUT.out.bk
      have o0 := BO.at (i := 0) rfl
      have ol := BO.lt
      have HQF : Hid (Q (.returned (.tuple #[v7, .bool true])) w7) := HQ1.out w7 v7 L7 V1 UN HON7.out HOUT.out.own HFULL.out (by rw [← HCC.out]; exact HRUN.out)
      obtain ⟨a7, c7, e7⟩ := HOUT.out.own.slice
      subst e7
      clear hrn
      go_wp2
      exact HQF.out
    ·
     have hto : decide ((tn : Int) ≤ (RN : Int)) = true := by simpa using (by omega : (tn : Int) ≤ (RN : Int))
     have hotn : IntKind.i64.wrap ((tn : Int) + 1) = ((tn + 1 : Nat) : Int) := by rw [wrap_small]; omega; omega; omega
     obtain ⟨b0, d0, b1, d1, b2, d2, b3, d3, hxs⟩ := HAS.out.slices
     subst hxs
     obtain ⟨n0, hn0⟩ : ∃ n, n = (V 0).length := ⟨_, rfl⟩
     obtain ⟨n1, hn1⟩ : ∃ n, n = (V 1).length := ⟨_, rfl⟩
     obtain ⟨n2, hn2⟩ : ∃ n, n = (V 2).length := ⟨_, rfl⟩
     obtain ⟨n3, hn3⟩ : ∃ n, n = (V 3).length := ⟨_, rfl⟩
     have B0 := HB0.out.1 0
     have B1 := HB0.out.1 1
     have B2 := HB0.out.1 2
     have B3 := HB0.out.1 3
     rw [← hn0, ← hn1, ← hn2, ← hn3] at HAS
     rw [← hn0] at B0
     rw [← hn1] at B1
     rw [← hn2] at B2
     rw [← hn3] at B3
     have HN : Hid (n0 = (V 0).length ∧ n1 = (V 1).length ∧ n2 = (V 2).length ∧ n3 = (V 3).length) := ⟨hn0, hn1, hn2, hn3⟩
     clear hn0 hn1 hn2 hn3
     have s1 : IntKind.i64.wrap ((n0 : Int) + (n1 : Int)) = ((n0 + n1 : Nat) : Int) := by rw [wrap_small]; omega; omega; omega
     have s2 : IntKind.i64.wrap (((n0 + n1 : Nat) : Int) + (n2 : Int)) = ((n0 + n1 + n2 : Nat) : Int) := by rw [wrap_small]; omega; omega; omega
     have s3 : IntKind.i64.wrap (((n0 + n1 + n2 : Nat) : Int) + (n3 : Int)) = ((n0 + n1 + n2 + n3 : Nat) : Int) := by rw [wrap_small]; omega; omega; omega
     have HAZ : Hid (AS w (w.heap.size + 1) NU #[.slice a1 m c1, .slice a2 m c2, .slice a3 thr c3] wr [.slice b0 n0 d0, .slice b1 n1 d1, .slice b2 n2 d2, .slice b3 n3 d3] us V (fun _ => []) 0) := HAS.out.zero _
     clear HAS HTN
     go_wp2_with fail
     refine hrd.mono ?_
     rintro _ w4 ⟨rfl, k4⟩
     have HA4 : Hid (AS w (w.heap.size + 1) NU #[.slice a1 m c1, .slice a2 m c2, .slice a3 thr c3] w4 [.slice b0 n0 d0, .slice b1 n1 d1, .slice b2 n2 d2, .slice b3 n3 d3] us V (fun _ => []) 0) := HAZ.out.go k4
     have BV := HA4.out.bV
     have v0 := BV.at (i := 0) rfl
     have v1 := BV.at (i := 1) rfl
     have v2 := BV.at (i := 2) rfl
     have v3 := BV.at (i := 3) rfl
     have vl := BV.lt
     clear p0 p1 p2 pl BP HAZ hrd
     go_wp2
     clear v0 v1 v2 v3 vl BV s1 s2 s3
     have HF0 : Hid (FullU LL V (fun _ => []) 0) := ⟨fun t ht => by omega, fun t => Nat.zero_le _⟩
     go_loopg [11] thr (fun gg s11 wq => ∃ (t : Nat) (us : List Value) (UN : Nat → List (List EvT)), t ≤ thr ∧ gg = thr - t ∧ s11 = .int .i64 t ∧ Hid (AS w (w.heap.size + 1) NU #[.slice a1 m c1, .slice a2 m c2, .slice a3 thr c3] wq [.slice b0 n0 d0, .slice b1 n1 d1, .slice b2 n2 d2, .slice b3 n3 d3] us V UN t) ∧ Hid (FullU LL V UN t))
     case atStart => exact ⟨0, us, _, Nat.zero_le _, rfl, rfl, HA4, HF0⟩
     case round =>
      clear HA4 HF0
      clear us UN
      obtain ⟨t, us, UN, ht, hg3, rfl, HA, HFU⟩ := hrel
      have BP := HA.out.bP
      have p0 := BP.at (i := 0) rfl
      have p1 := BP.at (i := 1) rfl
      have p2 := BP.at (i := 2) rfl
      have pl := BP.lt
      rcases Nat.lt_or_ge t thr with htlt | htge
      ·
       have BV := HA.out.bV
       have v0 := BV.at (i := 0) rfl
       have v1 := BV.at (i := 1) rfl
       have v2 := BV.at (i := 2) rfl
       have v3 := BV.at (i := 3) rfl
       have vl := BV.lt
       have hovt : IntKind.i64.wrap ((t : Int) + 1) = ((t + 1 : Nat) : Int) := by rw [wrap_small]; omega; omega; omega
       have ht4 : (t : Int) < 4 := by omega
       have htt : (t : Int) < (thr : Int) := by omega
       have hth := HTH.out t V wr #[.slice b0 n0 d0, .slice b1 n1 d1, .slice b2 n2 d2, .slice b3 n3 d3] htlt (fun l => by have := HB0.out.1 l; omega) HA.out.on ⟨_, _, _, _, rfl⟩ (fun l hl => by
        obtain ⟨x, hx⟩ : ∃ x, [Value.slice b0 n0 d0, .slice b1 n1 d1, .slice b2 n2 d2, .slice b3 n3 d3][l]? = some x := ⟨_, List.getElem?_eq_getElem (by simp; omega)⟩
        exact ⟨x, by simpa using hx, RdT.own intC_len (HA.out.vs.own l x hx)⟩)
       obtain ⟨R, hR⟩ : ∃ R, R = thP (threadP LL t) t V 3000 ((threadP LL t).length + 1) [] [] := ⟨_, rfl⟩
       rw [← hR] at hth
       have HR : Hid (R = thP (threadP LL t) t V 3000 ((threadP LL t).length + 1) [] []) := hR
       obtain ⟨u, hu⟩ : ∃ u, us[t]? = some u := ⟨_, List.getElem?_eq_getElem (by rw [HA.out.lu]; omega)⟩
       have HUU : Hid (us[t]? = some u) := hu
       clear hR hu
       go_wp2_with fail
       refine hth.mono ?_
       rintro _ w5 ⟨v5, rfl, hE5, k5, a5, c5, rfl⟩
       have HA5 := HA.out.go k5
       have BU := HA5.bU
       have z0 := BU.at (i := t) (show us.toArray[t]? = some u by have := HUU.out; simpa using this)
       have zf := BU.fr t
       have zl := BU.lt
       obtain ⟨RL, hRL⟩ : ∃ RL, RL = R.length := ⟨_, rfl⟩
       have HRL : Hid (RL = R.length) := hRL
       have hA6 := HA.out.fill k5 hE5 (by omega)
       rw [← hRL] at hA6 ⊢
       obtain ⟨W6, hW6⟩ : ∃ W6, W6 = w5.setCell ⟨NU, t, none⟩ (.slice a5 RL c5) := ⟨_, rfl⟩
       rw [← hW6] at hA6
       have HA6 : Hid (AS w (w.heap.size + 1) NU #[.slice a1 m c1, .slice a2 m c2, .slice a3 thr c3] W6 [.slice b0 n0 d0, .slice b1 n1 d1, .slice b2 n2 d2, .slice b3 n3 d3] (us.set t (.slice a5 RL c5)) V (updF UN t R) (t + 1)) := hA6
       have HUL : Hid (us.length = 4) := HA.out.lu
       clear hA6 hRL hth HA5 hE5 k5 v0 v1 v2 v3 vl BV p0 p1 p2 pl BP HA
       go_upto_region 15 with fail
       rw [← hW6]
       clear hW6 z0 zf zl BU HUU
       have BU6 := HA6.out.bU
       have z0 := BU6.at (i := t) (show (us.set t (Value.slice a5 RL c5)).toArray[t]? = some (Value.slice a5 RL c5) by simp only [List.getElem?_toArray]; exact List.getElem?_set_self (by rw [HUL.out]; omega))
       have zl := BU6.lt
       by_cases h3 : 3000 < RL
       ·
        have d3k : decide ((3000 : Int) < (RL : Int)) = true := by simpa using (by omega : (3000 : Int) < (RL : Int))
        have HQQ := HQ0.out W6 HA6.out.on
        have HQ3 : Hid (Q (.returned (.tuple #[.slice none 0 0, .bool false])) W6) := HQQ
        clear HQQ
        go_wp2
        exact HQ3.out
       ·
        have d3k : decide ((3000 : Int) < (RL : Int)) = false := by simpa using (by omega : ¬ (3000 : Int) < (RL : Int))
        have HFU2 : Hid (FullU LL V (updF UN t R) (t + 1)) := ⟨fun t' ht' => by
         by_cases e : t' = t
         ·
          subst e; rw [upd_at]; exact HR.out
         ·
          rw [upd_far UN R e]; exact HFU.out.1 t' (by omega), fun t' => by
         by_cases e : t' = t
         ·
          subst e; rw [upd_at, ← HRL.out]; omega
         ·
          rw [upd_far UN R e]; exact HFU.out.2 t'⟩
        go_wp2
        go_roundg (thr - (t + 1))
        case measure => omega
        case rel => exact ⟨t + 1, _, _, htlt, rfl, rfl, HA6, HFU2⟩
      ·
       obtain rfl : thr = t := by omega
       have HB3 : Hid (VC V V (0 * 30000)) := VC.zero HB0.out.2
       go_wp2
       clear p0 p1 p2 pl BP
       go_loopg [12] thr (fun gg s12 wq => ∃ (t : Nat) (xs : List Value) (V2 : Nat → List Int), t ≤ thr ∧ gg = thr - t ∧ s12 = .int .i64 t ∧ Hid (AS w (w.heap.size + 1) NU #[.slice a1 m c1, .slice a2 m c2, .slice a3 thr c3] wq xs us V2 UN thr) ∧ Hid (VC V2 V (t * 30000)))
       case atStart => exact ⟨0, _, V, Nat.zero_le _, rfl, rfl, HA, HB3⟩
       case round =>
        clear HA HB3
        obtain ⟨t, xs, V2, ht, hg4, rfl, HA, HB3⟩ := hrel
        have BP := HA.out.bP
        have p0 := BP.at (i := 0) rfl
        have p1 := BP.at (i := 1) rfl
        have p2 := BP.at (i := 2) rfl
        have pl := BP.lt
        rcases Nat.lt_or_ge t thr with htlt | htge
        ·
         have hovt : IntKind.i64.wrap ((t : Int) + 1) = ((t + 1 : Nat) : Int) := by rw [wrap_small]; omega; omega; omega
         have ht4 : (t : Int) < 4 := by omega
         have htt : (t : Int) < (thr : Int) := by omega
         obtain ⟨u, hu, vs, hv1, hv2, _⟩ := HA.out.un t htlt
         obtain ⟨au, cu, rfl, _, _⟩ := hv2.1.slice
         have hUT : (UN t).length ≤ 3000 := HFU.out.2 t
         obtain ⟨UT, hUTe⟩ : ∃ UT, UT = (UN t).length := ⟨_, rfl⟩
         rw [hv1, ← hUTe] at hu
         rw [← hUTe] at hUT
         have HUT : Hid (UT = (UN t).length) := hUTe
         have HUU : Hid (us[t]? = some (.slice au UT cu)) := hu
         have HB4 : Hid (VC V2 V ((t * 30000 + 0 * 10))) := VC.le HB3.out (by omega)
         clear hv1 hv2 hu hUTe HB3
         go_wp2
         clear p0 p1 p2 pl BP
         go_loopg [13] UT (fun gg s13 wq => ∃ (i : Nat) (xs : List Value) (V2 : Nat → List Int), i ≤ UT ∧ gg = UT - i ∧ s13 = .int .i64 i ∧ Hid (AS w (w.heap.size + 1) NU #[.slice a1 m c1, .slice a2 m c2, .slice a3 thr c3] wq xs us V2 UN thr) ∧ Hid (VC V2 V ((t * 30000 + i * 10))))
         case atStart => exact ⟨0, xs, V2, Nat.zero_le _, rfl, rfl, HA, HB4⟩
         case round =>
          clear HA HB4
          clear xs V2
          obtain ⟨i, xs, V2, hi, hg5, rfl, HA, HB4⟩ := hrel
          have BU := HA.out.bU
          have z0 := BU.at (i := t) (show us.toArray[t]? = some (Value.slice au UT cu) by have := HUU.out; simpa using this)
          have zl := BU.lt
          rcases Nat.lt_or_ge i UT with hilt | hige
          ·
           have hovi : IntKind.i64.wrap ((i : Int) + 1) = ((i + 1 : Nat) : Int) := by rw [wrap_small]; omega; omega; omega
           have hii : (i : Int) < (UT : Int) := by omega
           obtain ⟨R, hR⟩ : ∃ R, (UN t)[i]? = some R := ⟨_, List.getElem?_eq_getElem (by rw [← HUT.out]; exact hilt)⟩
           have hrw := HRW.out V UN thr HFU.out t htlt R (List.mem_of_getElem? hR)
           have hR10 := hrw.1
           have HWL : Hid (∀ e ∈ R, wrsB e.k = true → 0 ≤ e.l ∧ e.l < m) := hrw.2
           obtain ⟨RL, hRL⟩ : ∃ RL, RL = R.length := ⟨_, rfl⟩
           have HRL : Hid (RL = R.length) := hRL
           have HRR : Hid ((UN t)[i]? = some R) := hR
           rw [← hRL] at hR10
           have HB5 : Hid (VC V2 V ((t * 30000 + i * 10 + 0))) := VC.le HB4.out (by omega)
           clear hrw hR hRL HB4
           go_wp2
           clear z0 zl BU
           go_loopg [14] RL (fun gg s14 wq => ∃ (k : Nat) (xs : List Value) (V2 : Nat → List Int), k ≤ RL ∧ gg = RL - k ∧ s14 = .int .i64 k ∧ Hid (AS w (w.heap.size + 1) NU #[.slice a1 m c1, .slice a2 m c2, .slice a3 thr c3] wq xs us V2 UN thr) ∧ Hid (VC V2 V ((t * 30000 + i * 10 + k))))
           case atStart => exact ⟨0, xs, V2, Nat.zero_le _, rfl, rfl, HA, HB5⟩
           case round =>
            clear HA HB5
            clear xs V2
            obtain ⟨k, xs, V2, hk, hg6, rfl, HA, HB5⟩ := hrel
            have BU := HA.out.bU
            have z0 := BU.at (i := t) (show us.toArray[t]? = some (Value.slice au UT cu) by have := HUU.out; simpa using this)
            have zl := BU.lt
            obtain ⟨u2, hu2, vs, hv1, hv2, hv3⟩ := HA.out.un t htlt
            have hue : u2 = .slice au UT cu := by rw [HUU.out] at hu2; exact (Option.some.inj hu2).symm
            subst hue
            obtain ⟨r, hr⟩ : ∃ r, vs[i]? = some r := ⟨_, List.getElem?_eq_getElem (by rw [hv1, ← HUT.out]; exact hilt)⟩
            have hRT := hv3 i r R hr HRR.out
            obtain ⟨ar, cr, rfl, _, _⟩ := hRT.1.slice
            have hv2' := hv2.1
            have hUv : UT = vs.length := by rw [hv1, HUT.out]
            rw [hUv] at hv2'
            obtain ⟨gu, ou, hau, hgu, hcu⟩ := hv2'.at hr
            subst hau
            have q0 : wr.cell? ⟨gu, ou + i, none⟩ = some (.slice ar R.length cr) := by have := hcu 0 _ rfl; simpa using this
            rw [← HRL.out] at q0
            have HRT : Hid (Rd evC 6 wr (.slice ar R.length cr) R) := hRT.1
            clear hv1 hv2 hv3 hr hu2 hRT hv2' hUv hcu
            rcases Nat.lt_or_ge k RL with hklt | hkge
            ·
             have hovk : IntKind.i64.wrap ((k : Int) + 1) = ((k + 1 : Nat) : Int) := by rw [wrap_small]; omega; omega; omega
             have hkk : (k : Int) < (RL : Int) := by omega
             obtain ⟨e, he⟩ : ∃ e, R[k]? = some e := ⟨_, List.getElem?_eq_getElem (by rw [← HRL.out]; exact hklt)⟩
             obtain ⟨g1, o1, har, hg1, c0, c1', c2', c3', c4, c5⟩ := rd_ev HRT.out he
             subst har
             have HWE : Hid (wrsB e.k = true → 0 ≤ e.l ∧ e.l < m) := HWL.out e (List.mem_of_getElem? he)
             have hWr := fun W => rwrites_is e W
             unfold evV at hWr
             obtain ⟨W5, hW5⟩ : ∃ W5, W5 = wr.alloc (.cells #[.int .i64 e.t, .int .i64 e.i, .int .i64 e.k, .int .i64 e.l, .int .i64 e.r, .int .i64 e.w] 58) := ⟨_, rfl⟩
             have k5 : On wr W5 := by rw [hW5]; exact (On.refl wr).alloc _
             have HE5 : Hid (W5.heap[wr.heap.size]? = some (.cells #[.int .i64 e.t, .int .i64 e.i, .int .i64 e.k, .int .i64 e.l, .int .i64 e.r, .int .i64 e.w] 58 (0, 0))) := by show _ = _; rw [hW5]; exact heap_alloc_new wr _
             have HA5 : Hid (AS w (w.heap.size + 1) NU #[.slice a1 m c1, .slice a2 m c2, .slice a3 thr c3] W5 xs us V2 UN thr) := HA.out.go k5
             clear HA he HRT
             go_upto_region 27 with fail
             rw [← hW5]
             clear hW5 z0 zl BU q0 c0 c1' c2' c3' c4 c5 k5
             generalize wr.heap.size = NE at *
             have BE5 : Bk W5 NE #[.int .i64 e.t, .int .i64 e.i, .int .i64 e.k, .int .i64 e.l, .int .i64 e.r, .int .i64 e.w] := ⟨_, HE5.out⟩
             have y0 := BE5.at (i := 0) rfl
             have y1 := BE5.at (i := 1) rfl
             have y2 := BE5.at (i := 2) rfl
             have y3 := BE5.at (i := 3) rfl
             have y4 := BE5.at (i := 4) rfl
             have y5 := BE5.at (i := 5) rfl
             have yl := BE5.lt
             go_wp2_with fail
             refine (hWr _).mono ?_
             rintro _ w6 ⟨rfl, k6⟩
             have HA6 : Hid (AS w (w.heap.size + 1) NU #[.slice a1 m c1, .slice a2 m c2, .slice a3 thr c3] w6 xs us V2 UN thr) := HA5.out.go k6
             have HE6 : Hid (w6.heap[NE]? = some (.cells #[.int .i64 e.t, .int .i64 e.i, .int .i64 e.k, .int .i64 e.l, .int .i64 e.r, .int .i64 e.w] 58 (0, 0))) := (k6.block _ (lt_of_block HE5.out)).trans HE5.out
             clear HA5 HE5 k6 y0 y1 y2 y3 y4 y5 yl BE5 hWr
             cases hwb : wrsB e.k with
             | false =>
              have HB6 : Hid (VC V2 V ((t * 30000 + i * 10 + (k + 1)))) := VC.le HB5.out (by omega)
              go_wp2
              go_roundg (RL - (k + 1))
              case measure => omega
              case rel => exact ⟨k + 1, xs, V2, hklt, rfl, rfl, HA6, HB6⟩
             | true =>
              have hel := HWE.out hwb
              obtain ⟨l, hle⟩ : ∃ l : Nat, e.l = (l : Int) := ⟨e.l.toNat, by omega⟩
              rw [hle] at HE6 hel
              have hl4 : l < 4 := by omega
              have hl4i : (l : Int) < 4 := by omega
              obtain ⟨x, hx⟩ : ∃ x, xs[l]? = some x := ⟨_, List.getElem?_eq_getElem (by rw [HA6.out.lx]; exact hl4)⟩
              have HXL : Hid (xs[l]? = some x) := hx
              have hxa : xs.toArray[l]? = some x := by simpa using hx
              have BE6 : Bk w6 NE #[.int .i64 e.t, .int .i64 e.i, .int .i64 e.k, .int .i64 l, .int .i64 e.r, .int .i64 e.w] := ⟨_, HE6.out⟩
              have BV6 := HA6.out.bV
              have HVL : Hid ((V2 l).length ≤ 900000) := by have h1 := HB5.out.1 l; have h2 := HB0.out.1 l; show _ ≤ _; omega
              have HWI : Hid (∀ W, On w6 W → Calls Tryz.prog 16 #[x, .int .i64 e.w] W fun e' w' => ∃ v', e' = .returned v' ∧ w'.ownsRow w.heap.size 2 1 v' (withP (V2 l) e.w).length ((withP (V2 l) e.w).flatMap intC) ∧ Fw x v' W w' ∧ Kt 2 W w') := fun W kq => rwith_is (V2 l) e.w x w.heap.size W (Nat.le_trans HA6.out.on.size kq.size) (own_on (HA6.out.vs.own l x hx) kq) HVL.out
              have HB6 : Hid (VC (updF V2 l (withP (V2 l) e.w)) V (t * 30000 + i * 10 + (k + 1))) := VC.le (vlen_upd HB5.out hl4) (by omega)
              clear hel hx HWE hwb HVL
              go_upto_region 28 with fail
              have S0 : Bk w6.drew NE #[.int .i64 e.t, .int .i64 e.i, .int .i64 e.k, .int .i64 l, .int .i64 e.r, .int .i64 e.w] ∧ Bk w6.drew (w.heap.size + 1) xs.toArray := ⟨BE6, BV6⟩
              refine region_fz (fun W => Bk W NE #[.int .i64 e.t, .int .i64 e.i, .int .i64 e.k, .int .i64 l, .int .i64 e.r, .int .i64 e.w] ∧ Bk W (w.heap.size + 1) xs.toArray) [10] 11 (by kernel_rfl) rfl ?_
              refine fz_take 0 (v := ?_) rfl (by kernel_rfl) (by kernel_rfl) (by kernel_rfl) (by kernel_rfl) (fun _ _ _ h => h) rfl ?_ S0 ?_
              rotate_left
              ·
               intro W hW
               have y3 := hW.1.at (i := 3) rfl
               have y5 := hW.1.at (i := 5) rfl
               have yl := hW.1.lt
               have z0 := hW.2.at (i := l) hxa
               have zl := hW.2.lt
               go_simp
               (try with_reducible rfl)
              simp only [zpu, zsa, zsz, zss]
              refine fz_take 1 (v := ?_) rfl (by kernel_rfl) (by kernel_rfl) (by kernel_rfl) (by kernel_rfl) (fun _ _ _ h => h) rfl ?_ S0 ?_
              rotate_left
              ·
               intro W hW
               have y3 := hW.1.at (i := 3) rfl
               have y5 := hW.1.at (i := 5) rfl
               have yl := hW.1.lt
               have z0 := hW.2.at (i := l) hxa
               have zl := hW.2.lt
               go_simp
               (try with_reducible rfl)
              simp only [zpu, zsa, zsz, zss]
              refine fz_take 2 (v := ?_) rfl (by kernel_rfl) (by kernel_rfl) (by kernel_rfl) (by kernel_rfl) (fun _ _ _ h => h) rfl ?_ S0 ?_
              rotate_left
              ·
               intro W hW
               have y3 := hW.1.at (i := 3) rfl
               have y5 := hW.1.at (i := 5) rfl
               have yl := hW.1.lt
               have z0 := hW.2.at (i := l) hxa
               have zl := hW.2.lt
               go_simp
               (try with_reducible rfl)
              simp only [zpu, zsa, zsz, zss]
              refine fz_take 3 (v := ?_) rfl (by kernel_rfl) (by kernel_rfl) (by kernel_rfl) (by kernel_rfl) (fun _ _ _ h => h) rfl ?_ S0 ?_
              rotate_left
              ·
               intro W hW
               have y3 := hW.1.at (i := 3) rfl
               have y5 := hW.1.at (i := 5) rfl
               have yl := hW.1.lt
               have z0 := hW.2.at (i := l) hxa
               have zl := hW.2.lt
               go_simp
               (try with_reducible rfl)
              simp only [zpu, zsa, zsz, zss]
              refine fz_take 4 (v := ?_) rfl (by kernel_rfl) (by kernel_rfl) (by kernel_rfl) (by kernel_rfl) (fun _ _ _ h => h) rfl ?_ S0 ?_
              rotate_left
              ·
               intro W hW
               have y3 := hW.1.at (i := 3) rfl
               have y5 := hW.1.at (i := 5) rfl
               have yl := hW.1.lt
               have z0 := hW.2.at (i := l) hxa
               have zl := hW.2.lt
               go_simp
               (try with_reducible rfl)
              simp only [zpu, zsa, zsz, zss]
              refine fz_take 5 (v := ?_) rfl (by kernel_rfl) (by kernel_rfl) (by kernel_rfl) (by kernel_rfl) (fun _ _ _ h => h) rfl ?_ S0 ?_
              rotate_left
              ·
               intro W hW
               have y3 := hW.1.at (i := 3) rfl
               have y5 := hW.1.at (i := 5) rfl
               have yl := hW.1.lt
               have z0 := hW.2.at (i := l) hxa
               have zl := hW.2.lt
               go_simp
               (try with_reducible rfl)
              simp only [zpu, zsa, zsz, zss]
              refine fz_take 6 (v := ?_) rfl (by kernel_rfl) (by kernel_rfl) (by kernel_rfl) (by kernel_rfl) (fun _ _ _ h => h) rfl ?_ S0 ?_
              rotate_left
              ·
               intro W hW
               have y3 := hW.1.at (i := 3) rfl
               have y5 := hW.1.at (i := 5) rfl
               have yl := hW.1.lt
               have z0 := hW.2.at (i := l) hxa
               have zl := hW.2.lt
               go_simp
               (try with_reducible rfl)
              simp only [zpu, zsa, zsz, zss]
              refine fz_take 7 (v := ?_) rfl (by kernel_rfl) (by kernel_rfl) (by kernel_rfl) (by kernel_rfl) (fun _ _ _ h => h) rfl ?_ S0 ?_
              rotate_left
              ·
               intro W hW
               have y3 := hW.1.at (i := 3) rfl
               have y5 := hW.1.at (i := 5) rfl
               have yl := hW.1.lt
               have z0 := hW.2.at (i := l) hxa
               have zl := hW.2.lt
               go_simp
               (try with_reducible rfl)
              simp only [zpu, zsa, zsz, zss]
              refine fz_one 8 rfl rfl (by kernel_rfl) (fun K hK => ?_)
              go_simp
              refine (HWI.out w6.drew (On.drew (On.refl w6))).mono ?_
              rintro _ w8 ⟨x8, rfl, ho8, hf8, hk8⟩
              obtain ⟨a8, c8, hx8⟩ := own_slice ho8
              obtain ⟨WL, hWL⟩ : ∃ WL, WL = (withP (V2 l) e.w).length := ⟨_, rfl⟩
              have HO8 : Hid (w8.ownsRow w.heap.size 2 1 x8 (withP (V2 l) e.w).length ((withP (V2 l) e.w).flatMap intC)) := ho8
              rw [← hWL] at hx8
              clear hWL ho8
              subst hx8
              have S8 : Bk w8 NE #[.int .i64 e.t, .int .i64 e.i, .int .i64 e.k, .int .i64 l, .int .i64 e.r, .int .i64 e.w] ∧ Bk w8 (w.heap.size + 1) xs.toArray := ⟨⟨_, (hk8.block _ _ _ _ HE6.out (by decide)).trans HE6.out⟩, ⟨_, (hk8.block _ _ _ _ HA6.out.hv (by decide)).trans HA6.out.hv⟩⟩
              refine hK.out _ _ (fun _ => S8) ?_
              clear hK
              refine fz_take 9 (v := ?_) rfl (by kernel_rfl) (by kernel_rfl) (by kernel_rfl) (by kernel_rfl) (fun _ _ _ h => h) rfl ?_ S8 ?_
              rotate_left
              ·
               intro W hW
               have y3 := hW.1.at (i := 3) rfl
               have y5 := hW.1.at (i := 5) rfl
               have yl := hW.1.lt
               have z0 := hW.2.at (i := l) hxa
               have zl := hW.2.lt
               go_simp
               (try with_reducible rfl)
              simp only [zpu, zsa, zsz, zss]
              have z0 := S8.2.at (i := l) hxa
              have zf := S8.2.fr l
              have zl := S8.2.lt
              refine fz_one 10 rfl rfl (by kernel_rfl) (fun K hK => ?_)
              go_simp
              have hA9 := (HA6.out.go (On.drew (On.refl w6))).put (l := l) HXL.out hf8 hk8 HO8.out
              obtain ⟨W9, hW9⟩ : ∃ W9, W9 = w8.setCell ⟨w.heap.size + 1, l, none⟩ (.slice a8 WL c8) := ⟨_, rfl⟩
              rw [← hW9] at hA9 ⊢
              have HA9 : Hid (AS w (w.heap.size + 1) NU #[.slice a1 m c1, .slice a2 m c2, .slice a3 thr c3] W9 (xs.set l (.slice a8 WL c8)) us (updF V2 l (withP (V2 l) e.w)) UN thr) := hA9
              refine hK.out _ _ (fun h => absurd (List.mem_singleton.2 rfl) h) ?_
              clear hK hA9 hW9 HO8 hf8 hk8 S8 S0 z0 zf zl
              refine fz_done (by kernel_rfl) (NoPanic.normal ?_)
              go_wp2
              go_roundg (RL - (k + 1))
              case measure => omega
              case rel => exact ⟨k + 1, _, _, hklt, rfl, rfl, HA9, HB6⟩
            ·
             obtain rfl : RL = k := by omega
             have HB6 : Hid (VC V2 V ((t * 30000 + (i + 1) * 10))) := VC.le HB5.out (by omega)
             go_wp2
             go_roundg (UT - (i + 1))
             case measure => omega
             case rel => exact ⟨i + 1, xs, V2, hilt, rfl, rfl, HA, HB6⟩
          ·
           obtain rfl : UT = i := by omega
           have HB6 : Hid (VC V2 V ((t + 1) * 30000)) := VC.le HB4.out (by omega)
           go_wp2
           go_roundg (thr - (t + 1))
           case measure => omega
           case rel => exact ⟨t + 1, xs, V2, htlt, rfl, rfl, HA, HB6⟩
        ·
         obtain rfl : thr = t := by omega
         obtain ⟨e0, f0, e1, f1, e2, f2, e3, f3, hxs⟩ := HA.out.slices
         subst hxs
         obtain ⟨m0, hm0⟩ : ∃ n, n = (V2 0).length := ⟨_, rfl⟩
         obtain ⟨m1, hm1⟩ : ∃ n, n = (V2 1).length := ⟨_, rfl⟩
         obtain ⟨m2, hm2⟩ : ∃ n, n = (V2 2).length := ⟨_, rfl⟩
         obtain ⟨m3, hm3⟩ : ∃ n, n = (V2 3).length := ⟨_, rfl⟩
         have C0 := HB3.out.1 0
         have C1 := HB3.out.1 1
         have C2 := HB3.out.1 2
         have C3 := HB3.out.1 3
         have hn := HN.out
         rw [← hm0, ← hn.1] at C0
         rw [← hm1, ← hn.2.1] at C1
         rw [← hm2, ← hn.2.2.1] at C2
         rw [← hm3, ← hn.2.2.2] at C3
         rw [← hm0, ← hm1, ← hm2, ← hm3] at HA
         have HM4 : Hid (m0 = (V2 0).length ∧ m1 = (V2 1).length ∧ m2 = (V2 2).length ∧ m3 = (V2 3).length) := ⟨hm0, hm1, hm2, hm3⟩
         clear hm0 hm1 hm2 hm3 hn p0 p1 p2 pl BP
         have s1 : IntKind.i64.wrap ((m0 : Int) + (m1 : Int)) = ((m0 + m1 : Nat) : Int) := by rw [wrap_small]; omega; omega; omega
         have s2 : IntKind.i64.wrap (((m0 + m1 : Nat) : Int) + (m2 : Int)) = ((m0 + m1 + m2 : Nat) : Int) := by rw [wrap_small]; omega; omega; omega
         have s3 : IntKind.i64.wrap (((m0 + m1 + m2 : Nat) : Int) + (m3 : Int)) = ((m0 + m1 + m2 + m3 : Nat) : Int) := by rw [wrap_small]; omega; omega; omega
         have BP := HA.out.bP
         have p0 := BP.at (i := 0) rfl
         have p1 := BP.at (i := 1) rfl
         have p2 := BP.at (i := 2) rfl
         have pl := BP.lt
         have BV := HA.out.bV
         have v0 := BV.at (i := 0) rfl
         have v1 := BV.at (i := 1) rfl
         have v2 := BV.at (i := 2) rfl
         have v3 := BV.at (i := 3) rfl
         have vl := BV.lt
         by_cases heq : m0 + m1 + m2 + m3 = n0 + n1 + n2 + n3
         ·
          have dq : (((m0 + m1 + m2 + m3 : Nat) : Int) == ((n0 + n1 + n2 + n3 : Nat) : Int)) = true := by rw [heq]; simp
          obtain ⟨w4, rfl⟩ : ∃ w4, w4 = wr := ⟨_, rfl⟩
          obtain ⟨xs, hxs⟩ : ∃ xs : List Value, xs = [.slice e0 m0 f0, .slice e1 m1 f1, .slice e2 m2 f2, .slice e3 m3 f3] := ⟨_, rfl⟩
          have HAF : Hid (AS w (w.heap.size + 1) NU #[.slice a1 m c1, .slice a2 m c2, .slice a3 thr c3] w4 xs us V2 UN thr) := by rw [hxs]; exact HA.out
          have HFULL : Hid (FullU LL V UN thr) := HFU.out
          clear hxs heq HA HFU HB3 HB0 HM4 HN
          go_upto_region 32 with fail
          clear v0 v1 v2 v3 vl BV p0 p1 p2 pl BP s1 s2 s3 dq C0 C1 C2 C3
          generalize hVe : V2 = V2' at HAF
          obtain ⟨u0, u1, u2, u3, rfl⟩ := four HAF.out.lu
          obtain ⟨W5, hW5⟩ : ∃ W5, W5 = w4.alloc (.cells #[.slice none 0 0] TS) := ⟨_, rfl⟩
          have k5 : On w4 W5 := by rw [hW5]; exact (On.refl w4).alloc _
          have e5 : W5.heap[w4.heap.size]? = some (.cells #[.slice none 0 0] TS (0, 0)) := by rw [hW5]; exact heap_alloc_new w4 _
          have HA5 : Hid (AS w (w.heap.size + 1) NU #[.slice a1 m c1, .slice a2 m c2, .slice a3 thr c3] W5 xs [u0, u1, u2, u3] V2' UN thr) := HAF.out.go k5
          have HE5 : Hid (W5.heap[w4.heap.size]? = some (.cells #[.slice none 0 0] TS (0, 0))) := e5
          have hN5 : w.heap.size ≤ w4.heap.size := HAF.out.on.size
          have hin5 := hin W5.drew (HA5.out.on.trans (On.drew (On.refl _)))
          have S0 : Bk W5.drew w.heap.size #[.slice a1 m c1, .slice a2 m c2, .slice a3 thr c3] ∧ Bk W5.drew NU #[u0, u1, u2, u3] := ⟨HA5.out.bP, HA5.out.bU⟩
          clear e5 k5 HAF
          go_upto_region 33 with fail
          rw [← hW5]
          clear hW5
          generalize w4.heap.size = NO at *
          refine region_fz (fun W => Bk W w.heap.size #[.slice a1 m c1, .slice a2 m c2, .slice a3 thr c3] ∧ Bk W NU #[u0, u1, u2, u3]) [] 7 (by kernel_rfl) rfl ?_
          refine fz_take 0 (v := ?_) rfl (by kernel_rfl) (by kernel_rfl) (by kernel_rfl) (by kernel_rfl) (fun _ _ _ h => h) rfl ?_ S0 ?_
          rotate_left
          ·
           intro W hW
           have y0 := hW.1.at (i := 0) rfl
           have y1 := hW.1.at (i := 1) rfl
           have y2 := hW.1.at (i := 2) rfl
           have yl := hW.1.lt
           have x0 := hW.2.at (i := 0) rfl
           have x1 := hW.2.at (i := 1) rfl
           have x2 := hW.2.at (i := 2) rfl
           have x3 := hW.2.at (i := 3) rfl
           have xl := hW.2.lt
           go_simp
           (try with_reducible rfl)
          simp only [zpu, zsa, zsz, zss]
          refine fz_take 1 (v := ?_) rfl (by kernel_rfl) (by kernel_rfl) (by kernel_rfl) (by kernel_rfl) (fun _ _ _ h => h) rfl ?_ S0 ?_
          rotate_left
          ·
           intro W hW
           have y0 := hW.1.at (i := 0) rfl
           have y1 := hW.1.at (i := 1) rfl
           have y2 := hW.1.at (i := 2) rfl
           have yl := hW.1.lt
           have x0 := hW.2.at (i := 0) rfl
           have x1 := hW.2.at (i := 1) rfl
           have x2 := hW.2.at (i := 2) rfl
           have x3 := hW.2.at (i := 3) rfl
           have xl := hW.2.lt
           go_simp
           (try with_reducible rfl)
          simp only [zpu, zsa, zsz, zss]
          refine fz_take 3 (v := ?_) rfl (by kernel_rfl) (by kernel_rfl) (by kernel_rfl) (by kernel_rfl) (fun _ _ _ h => h) rfl ?_ S0 ?_
          rotate_left
          ·
           intro W hW
           have y0 := hW.1.at (i := 0) rfl
           have y1 := hW.1.at (i := 1) rfl
           have y2 := hW.1.at (i := 2) rfl
           have yl := hW.1.lt
           have x0 := hW.2.at (i := 0) rfl
           have x1 := hW.2.at (i := 1) rfl
           have x2 := hW.2.at (i := 2) rfl
           have x3 := hW.2.at (i := 3) rfl
           have xl := hW.2.lt
           go_simp
           (try with_reducible rfl)
          simp only [zpu, zsa, zsz, zss]
          refine fz_take 4 (v := ?_) rfl (by kernel_rfl) (by kernel_rfl) (by kernel_rfl) (by kernel_rfl) (fun _ _ _ h => h) rfl ?_ S0 ?_
          rotate_left
          ·
           intro W hW
           have y0 := hW.1.at (i := 0) rfl
           have y1 := hW.1.at (i := 1) rfl
           have y2 := hW.1.at (i := 2) rfl
           have yl := hW.1.lt
           have x0 := hW.2.at (i := 0) rfl
           have x1 := hW.2.at (i := 1) rfl
           have x2 := hW.2.at (i := 2) rfl
           have x3 := hW.2.at (i := 3) rfl
           have xl := hW.2.lt
           go_simp
           (try with_reducible rfl)
          simp only [zpu, zsa, zsz, zss]
          refine fz_one 2 rfl rfl (by kernel_rfl) (fun K hK => ?_)
          go_simp
          refine hin5.mono ?_
          rintro _ w6 ⟨ai, ci, rfl, hI6, k6⟩
          have S6 : Bk w6 w.heap.size #[.slice a1 m c1, .slice a2 m c2, .slice a3 thr c3] ∧ Bk w6 NU #[u0, u1, u2, u3] := ⟨S0.1.on k6, S0.2.on k6⟩
          have kk6 : On W5 w6 := (On.drew (On.refl W5)).trans k6
          have HA6 : Hid (AS w (w.heap.size + 1) NU #[.slice a1 m c1, .slice a2 m c2, .slice a3 thr c3] w6 xs [u0, u1, u2, u3] V2' UN thr) := HA5.out.go kk6
          have hch := HCH.out UN V #[u0, u1, u2, u3] NO ai ci w6 HFULL.out HA6.out.on hN5 ⟨⟨u0, u1, u2, u3, rfl⟩, fun t ht => by
           obtain ⟨u, e1, e2⟩ := HA6.out.un t ht
           exact ⟨u, by simpa using e1, e2⟩⟩ ((kk6.block _ (lt_of_block HE5.out)).trans HE5.out) (RdT.own evC_len (by rw [inits_len]; exact hI6))
          refine hK.out _ _ (fun _ => S6) ?_
          clear hK hI6 hin5
          obtain ⟨CC, hCC⟩ : ∃ CC, CC = chP m UN thr 0 (initsP m IN) := ⟨_, rfl⟩
          have HCC : Hid (CC = chP m UN thr 0 (initsP m IN)) := hCC
          rw [← hCC] at hch
          clear hCC
          have hNP : NO ≠ w.heap.size ∧ NO ≠ NU := by
           have e1 := ((kk6.block _ (lt_of_block HE5.out)).trans HE5.out)
           have e2 := HA6.out.bp
           have e3 := HA6.out.hu
           constructor
           ·
            intro e; rw [e, e2] at e1; simp only [Option.some.injEq, Obj.cells.injEq] at e1; exact absurd e1.2.1 (by decide)
           ·
            intro e; rw [e, e3] at e1; simp only [Option.some.injEq, Obj.cells.injEq] at e1; exact absurd e1.2.1 (by decide)
          refine fz_one 5 rfl rfl (by kernel_rfl) (fun K hK => ?_)
          go_simp
          refine hch.mono ?_
          intro e7 w7 hPP
          have eP := hPP.1
          obtain ⟨_, v7, L7, hO7, hL7, hF7, hK7⟩ := hPP
          have S7 : Bk w7 w.heap.size #[.slice a1 m c1, .slice a2 m c2, .slice a3 thr c3] ∧ Bk w7 NU #[u0, u1, u2, u3] := ⟨S6.1.fx hF7 (fun e => hNP.1 e.symm) (fun e => by cases e), S6.2.fx hF7 (fun e => hNP.2 e.symm) (fun e => by cases e)⟩
          have HON7 : Hid (On w w7) := HA6.out.on.fx hF7 hN5 (fun g hg => by cases hg)
          have HOUT : Hid (Out NO w.heap.size w7 v7 L7) := hO7
          have HL7 : Hid (∀ L2, runP most [] CC = some L2 → L7 = L2) := hL7
          obtain ⟨bb, hbb⟩ : ∃ bb, bb = (runP most [] CC).isSome := ⟨_, rfl⟩
          rw [← hbb] at eP
          subst eP
          refine hK.out _ _ (fun _ => S7) ?_
          clear hK hF7 hK7 hO7 hL7 hch
          refine fz_take 6 (v := ?_) rfl (by kernel_rfl) (by kernel_rfl) (by kernel_rfl) (by kernel_rfl) (fun _ _ _ h => h) rfl ?_ S7 ?_
          rotate_left
          ·
           intro W hW
           go_simp
           (try with_reducible rfl)
          simp only [zpu, zsa, zsz, zss]
          refine fz_done (by kernel_rfl) (NoPanic.normal ?_)
          cases hrn : runP most [] CC with
          | none =>
           rw [hrn] at hbb
           obtain rfl : bb = false := hbb
           clear hrn
           go_wp2
           exact HQ0.out _ HON7.out
          | some L2 =>
           rw [hrn] at hbb
           obtain rfl : bb = true := hbb
           have HLL : Hid (L7 = L2) := HL7.out L2 hrn
           have HRUN : Hid (runP most [] CC = some L7) := by show _ = _; rw [HLL.out]; exact hrn
           have BO : Bk w7 NO #[v7] := HOUT.out.bk
           have o0 := BO.at (i := 0) rfl
           have ol := BO.lt
           have HQF : Hid (Q (.returned (.tuple #[v7, .bool true])) w7) := HQ1.out w7 v7 L7 V UN HON7.out HOUT.out.own HFULL.out (by rw [← HCC.out]; exact HRUN.out)
           obtain ⟨a7, c7, e7⟩ := HOUT.out.own.slice
           subst e7
           clear hrn
           go_wp2
           exact HQF.out
         ·
          have dq : (((m0 + m1 + m2 + m3 : Nat) : Int) == ((n0 + n1 + n2 + n3 : Nat) : Int)) = false := by simpa using (by omega : ¬ ((m0 + m1 + m2 + m3 : Nat) : Int) = ((n0 + n1 + n2 + n3 : Nat) : Int))
          by_cases h200 : 200 < n0 + n1 + n2 + n3
          ·
           have d2 : decide ((200 : Int) < ((n0 + n1 + n2 + n3 : Nat) : Int)) = true := by simpa using (by omega : (200 : Int) < ((n0 + n1 + n2 + n3 : Nat) : Int))
           have HQ3 : Hid (Q (.returned (.tuple #[.slice none 0 0, .bool false])) wr) := HQ0.out wr HA.out.on
           go_wp2
           exact HQ3.out
          ·
           have d2 : decide ((200 : Int) < ((n0 + n1 + n2 + n3 : Nat) : Int)) = false := by simpa using (by omega : ¬ (200 : Int) < ((n0 + n1 + n2 + n3 : Nat) : Int))
           have HVB : Hid (VBd V2 120200) := ⟨fun l => by
            have hm4 := HM4.out
            rcases Nat.lt_or_ge l 4 with h | h
            ·
             have : l = 0 ∨ l = 1 ∨ l = 2 ∨ l = 3 := by omega
             rcases this with rfl | rfl | rfl | rfl <;> omega
            ·
             rw [HB3.out.2 l h]; exact Nat.zero_le _, HB3.out.2⟩
           go_wp2
           go_roundg (RN + 1 - (tn + 1))
           case measure => omega
           case rel => exact ⟨tn + 1, _, us, V2, UN, thr, by omega, rfl, rfl, HA, HVB, Or.inr ⟨rfl, V, HFU.out⟩⟩
end Go.Proofs.YtioiabfheeglgaaGreatDoor
