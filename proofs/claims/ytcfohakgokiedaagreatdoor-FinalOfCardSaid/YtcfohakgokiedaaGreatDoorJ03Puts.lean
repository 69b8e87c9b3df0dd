/- Rows that a call makes itself, rows of rows, and that they can be read. -/
import Derived.Test.YtcfohakgokiedaaGreatDoorJ02FinW
import Derived.Deep.LoopGhost
import Derived.Deep.RegionLaw
import Derived.Laws.MakeOwn
import Derived.Maps.AppendAt
import Derived.Laws.ResultCell
namespace Go.Proofs.YtcfohakgokiedaaGreatDoor
open Go.RowKit

theorem On.grown {x w w' : World} {v : Value} (h : On x w) (hg : w.grownBy w' v.ownBlock) (hv : ∀ g, v.ownBlock = some g → x.heap.size ≤ g) : On x w' :=
 ⟨hg.os.trans h.os, hg.tape.trans h.tape, hg.output.trans h.output, Nat.le_trans h.size hg.size, fun k hk => (hg.block k (Nat.lt_of_lt_of_le hk h.size) (fun e => by have := hv k e.symm; omega)).trans (h.block k hk)⟩
theorem On.grownNone {x w w' : World} (h : On x w) (hg : w.grownBy w' none) : On x w' :=
 ⟨hg.os.trans h.os, hg.tape.trans h.tape, hg.output.trans h.output, Nat.le_trans h.size hg.size, fun k hk => (hg.block k (Nat.lt_of_lt_of_le hk h.size) (fun e => by cases e)).trans (h.block k hk)⟩
theorem own_mono {w : World} {base base' k n : Nat} {e : TypeId} {v : Value} {xs : List Value} (h : w.ownsRow base e k v n xs) (hb : base' ≤ base) : w.ownsRow base' e k v n xs := by
 refine ⟨h.1, ?_⟩
 rcases h.2 with h2 | ⟨g, cap, cur, hv, hg, r⟩
 ·
  exact Or.inl h2
 ·
  exact Or.inr ⟨g, cap, cur, hv, by omega, r⟩
theorem own_on {w w' : World} {base k n : Nat} {e : TypeId} {v : Value} {xs : List Value} (h : w.ownsRow base e k v n xs) (o : On w w') : w'.ownsRow base e k v n xs := by
 refine ⟨h.1, ?_⟩
 rcases h.2 with h2 | ⟨g, cap, cur, hv, hb, hh, r⟩
 ·
  exact Or.inl h2
 ·
  exact Or.inr ⟨g, cap, cur, hv, hb, (o.block g (lt_of_block hh)).trans hh, r⟩
/-- A row of one, just laid. -/
theorem own_one (w : World) (cs : Array Value) (e : TypeId) (k base : Nat) (hk : cs.size = k) (hb : base ≤ w.heap.size) : (w.alloc (.cells cs e)).ownsRow base e k (.slice (some ⟨w.heap.size, 0, none⟩) 1 1) 1 cs.toList := by
 refine ⟨by simp [hk], Or.inr ⟨w.heap.size, 1, cs, rfl, hb, heap_alloc_new w _, Nat.le_refl _, by decide, by simp [hk], ?_⟩⟩
 rw [List.take_of_length_le (by simp [hk])]
theorem new_cell (w : World) (cs : Array Value) (T : TypeId) (j : Nat) : (w.alloc (.cells cs T)).cell? ((⟨w.heap.size, 0, none⟩ : Addr).add j) = cs.toList[j]? := by
 have h := heap_alloc_new w (.cells cs T)
 rw [Addr.add_lit, Nat.zero_add, Array.getElem?_toList]
 unfold World.cell?
 simp only [h]
 rfl
theorem own_slice {w : World} {base k n : Nat} {e : TypeId} {v : Value} {xs : List Value} (h : w.ownsRow base e k v n xs) : ∃ a c, v = .slice a n c := by
 rcases h.2 with ⟨hv, h0⟩ | ⟨g, cap, cur, hv, _⟩
 ·
  exact ⟨_, 0, by rw [hv, h0]⟩
 ·
  exact ⟨_, _, hv⟩
theorem own_far {w w' : World} {b1 b2 k1 k2 n m : Nat} {eo ei : TypeId} {u v : Value} {xs ys : List Value} (h : w.ownsRow b1 ei k1 u n xs) (ho : w.ownsRow b2 eo k2 v m ys) (hne : eo ≠ ei) (hg : w.grownBy w' v.ownBlock) : w'.ownsRow b1 ei k1 u n xs := by
 refine ⟨h.1, ?_⟩
 rcases h.2 with h2 | ⟨g, cap, cur, hv, hb, hh, r⟩
 ·
  exact Or.inl h2
 ·
  refine Or.inr ⟨g, cap, cur, hv, hb, (hg.block g (lt_of_block hh) (fun e => ?_)).trans hh, r⟩
  rcases ho.2 with ⟨hv2, _⟩ | ⟨g2, cap2, cur2, hv2, hb2, hh2, _⟩
  ·
   rw [hv2] at e; cases e
  ·
   rw [hv2] at e
   simp only [Value.ownBlock, Option.some.injEq] at e
   subst e
   rw [hh] at hh2
   simp only [Option.some.injEq, Obj.cells.injEq] at hh2
   exact hne hh2.2.1.symm
theorem Bk.grown {w w' : World} {N base : Nat} {cs : Array Value} {v : Value} (h : Bk w N cs) (hg : w.grownBy w' v.ownBlock) (hN : N < base) (ho : ∀ g, v.ownBlock = some g → base ≤ g) : Bk w' N cs := by
 obtain ⟨T, e⟩ := h
 exact ⟨T, (hg.block N (lt_of_block e) (fun h => by have := ho N h.symm; omega)).trans e⟩

/-- append to a row of the call's own, as one step of a region that draws. -/
theorem step_append_own {P : Program} {ops : Array Oper} {o : Oper} {a : Act} {w : World} {K : Act → World → Prop} {Q : Exit → Act → World → Prop} {E : Prop} (hg : o.guard = none) (s x : Operand) (t : TypeId)
  (ho : o.op = .call { callee := .builtin .append, args := #[s, x], argTypes := #[t, t] })
  (base : Nat) (e : TypeId) (i : TypeInfo) (z : Value) (size bytes : Nat) (ht : P.underlying t = some (.slice e)) (hi : P.info? e = some i) (hz : i.zero = some z)
  (hsize : i.size = size) (hby : i.bytes = bytes) (hzs : z.cells.size = size) (hsz : 0 < size)
  (v : Value) (n : Nat) (xs : List Value) (hs : a.eval s = v) (hown : w.ownsRow base e size v n xs)
  (ad : Addr) (m c : Nat) (news : List Value) (hx : a.eval x = .slice (some ad) m c) (hl : news.length = m * size) (hnews : ∀ j u, news[j]? = some u → w.cell? (ad.add j) = some u) (h1 : ∀ u ∈ news, u.oneCell' = true)
  (h63 : n + m ≤ maxLen) (hbytes : (n + m) * bytes ≤ 140737488355328) (hbase : base ≤ w.heap.size)
  (h : ∀ v' w', w'.ownsRow base e size v' (n + m) (xs ++ news) → w.grownBy w' v.ownBlock → K (a.put o.dst v') w') : if Region.wanted o (yielded ops a.tmps) = true then Oper.wp P o a w K Q else E := by
 have hw : Region.wanted o (yielded ops a.tmps) = true := by simp [Region.wanted, hg]
 rw [if_pos hw]
 exact wp_append_own w s x t ho base e i z size bytes ht hi hz hsize hby hzs hsz v n xs hs hown ad m c news hx hl hnews h1 h63 hbytes hbase fun v' w' h2 h3 _ => h v' w' h2 h3

/-- v holds rows of rows. -/
def Own2 {α : Type} (C : α → List Value) (k : Nat) (eo ei : TypeId) (w : World) (base : Nat) (v : Value) (LL : List (List α)) : Prop :=
 ∃ vs : List Value, vs.length = LL.length ∧ w.ownsRow base eo 1 v LL.length vs ∧ ∀ (i : Nat) (u : Value) (L : List α), vs[i]? = some u → LL[i]? = some L → w.ownsRow base ei k u L.length (L.flatMap C)
section
variable {α : Type} {C : α → List Value} {k : Nat} {eo ei : TypeId} {w w' : World} {base : Nat} {v : Value} {LL : List (List α)}
theorem Own2.on (h : Own2 C k eo ei w base v LL) (o : On w w') : Own2 C k eo ei w' base v LL := by
 obtain ⟨vs, h1, h2, h3⟩ := h
 exact ⟨vs, h1, own_on h2 o, fun i u L a b => own_on (h3 i u L a b) o⟩
theorem Own2.nil (C : α → List Value) (k : Nat) (eo ei : TypeId) (w : World) (base : Nat) : Own2 C k eo ei w base (.slice none 0 0) [] :=
 ⟨[], rfl, World.ownsRow_nil _ _ _ _, fun i u L a _ => by simp at a⟩
theorem Own2.snoc {vs : List Value} {v' u : Value} {L : List α} (hn : vs.length = LL.length) (ho : w.ownsRow base eo 1 v LL.length vs) (hs : ∀ (i : Nat) (u : Value) (L : List α), vs[i]? = some u → LL[i]? = some L → w.ownsRow base ei k u L.length (L.flatMap C))
  (hne : eo ≠ ei) (hg : w.grownBy w' v.ownBlock) (ho' : w'.ownsRow base eo 1 v' (LL.length + 1) (vs ++ [u])) (hu : w.ownsRow base ei k u L.length (L.flatMap C)) : Own2 C k eo ei w' base v' (LL ++ [L]) := by
 refine ⟨vs ++ [u], by simp [hn], by simpa using ho', fun i x M a b => ?_⟩
 rcases Nat.lt_or_ge i vs.length with h | h
 ·
  rw [List.getElem?_append_left h] at a
  rw [List.getElem?_append_left (by omega)] at b
  exact own_far (hs i x M a b) ho hne hg
 ·
  have hi : i = vs.length := by
   rcases Nat.lt_or_ge vs.length i with h' | h'
   ·
    rw [List.getElem?_eq_none (by simp; omega)] at a; cases a
   ·
    omega
  subst hi
  simp only [List.getElem?_concat_length, Option.some.injEq] at a
  rw [hn] at b
  simp only [List.getElem?_concat_length, Option.some.injEq] at b
  subst a; subst b
  exact own_far hu ho hne hg
theorem Own2.slice (h : Own2 C k eo ei w base v LL) : ∃ a c, v = .slice a LL.length c := by
 obtain ⟨vs, _, h2, _⟩ := h
 exact own_slice h2
theorem flat_one : ∀ vs : List Value, vs.flatMap oneC = vs
 | [] => rfl
 | v :: vs => by rw [List.flatMap_cons, flat_one vs]; rfl
/-- Such rows can be read. -/
theorem Own2.rd (hC : ∀ x, (C x).length = k) (h : Own2 C k eo ei w base v LL) : Rd2 C k w v LL := by
 obtain ⟨vs, h1, h2, h3⟩ := h
 refine ⟨vs, h1, Rd.own (fun _ => rfl) (e := eo) (base := base) (by rw [flat_one, h1]; exact h2), fun i u L a b => Rd.own hC (h3 i u L a b)⟩
end
end Go.Proofs.YtcfohakgokiedaaGreatDoor

namespace Go.Proofs.YtcfohakgokiedaaGreatDoor
open Go.RowKit

def putAt (l : List Value) (o : Nat) : List Value → List Value
 | [] => l
 | v :: vs => putAt (l.set o v) (o + 1) vs
def putCells (w : World) (N o : Nat) : List Value → World
 | [] => w
 | v :: vs => putCells (w.setCell ⟨N, o, none⟩ v) N (o + 1) vs
theorem putAt_skip (a : List Value) : ∀ (vs l : List Value) (o : Nat), putAt (a ++ l) (a.length + o) vs = a ++ putAt l o vs
 | [], _, _ => rfl
 | v :: vs, l, o => by
  rw [putAt, putAt, List.set_append_right _ _ (Nat.le_add_right _ _), Nat.add_sub_cancel_left, Nat.add_assoc]
  exact putAt_skip a vs _ _
theorem putAt_head : ∀ (b a l : List Value), a.length = b.length → putAt (a ++ l) 0 b = b ++ l
 | [], a, l, h => by
  have : a = [] := List.eq_nil_of_length_eq_zero h
  subst this; rfl
 | v :: b, [], l, h => by simp at h
 | v :: b, x :: a, l, h => by
  have := putAt_skip [v] b (a ++ l) 0
  simp only [List.length_cons, List.length_nil, List.singleton_append] at this
  rw [putAt, List.cons_append, List.set_cons_zero]
  rw [this, putAt_head b a l (by simpa using h)]
  rfl
theorem putAt_flat {α : Type} (C : α → List Value) (k : Nat) (hC : ∀ x, (C x).length = k) : ∀ (L : List α) (j : Nat) (x : α), j < L.length → putAt (L.flatMap C) (j * k) (C x) = (L.set j x).flatMap C
 | [], j, x, h => by simp at h
 | y :: L, 0, x, _ => by
  rw [List.flatMap_cons, Nat.zero_mul, putAt_head _ _ _ (by rw [hC, hC]), List.set_cons_zero, List.flatMap_cons]
 | y :: L, j + 1, x, h => by
  rw [List.flatMap_cons, show (j + 1) * k = (C y).length + j * k by rw [hC, Nat.succ_mul, Nat.add_comm], putAt_skip, putAt_flat C k hC L j x (by simpa using h), List.set_cons_succ, List.flatMap_cons]
theorem Bk.put {w : World} {N : Nat} {cs : List Value} (h : Bk w N cs.toArray) (o : Nat) (v : Value) : Bk (w.setCell ⟨N, o, none⟩ v) N (cs.set o v).toArray := by
 obtain ⟨T, e⟩ := h
 refine ⟨T, ?_⟩
 have hs : (cs.set o v).toArray = cs.toArray.setIfInBounds o v := by simp
 rw [hs]
 simp [World.setCell, Array.getElem?_modify, e]
theorem Bk.puts {N : Nat} : ∀ (vs : List Value) (w : World) (cs : List Value) (o : Nat), Bk w N cs.toArray → Bk (putCells w N o vs) N (putAt cs o vs).toArray
 | [], _, _, _, h => h
 | v :: vs, _, _, o, h => Bk.puts vs _ _ _ (h.put o v)
theorem Bk.far {w : World} {N M : Nat} {cs : Array Value} (h : Bk w M cs) (hne : N ≠ M) (o : Nat) (v : Value) : Bk (w.setCell ⟨N, o, none⟩ v) M cs := by
 obtain ⟨T, e⟩ := h
 exact ⟨T, (Below.heap_setCell _ _ _ _ (fun h => hne h.symm)).trans e⟩
theorem Bk.fars {N M : Nat} (hne : N ≠ M) : ∀ (vs : List Value) (w : World) (cs : Array Value) (o : Nat), Bk w M cs → Bk (putCells w N o vs) M cs
 | [], _, _, _, h => h
 | v :: vs, _, _, o, h => Bk.fars hne vs _ _ _ (h.far hne o v)
theorem size_set (w : World) (a : Addr) (v : Value) : (w.setCell a v).heap.size = w.heap.size := by simp [World.setCell]
theorem size_puts {N : Nat} : ∀ (vs : List Value) (w : World) (o : Nat), (putCells w N o vs).heap.size = w.heap.size
 | [], _, _ => rfl
 | v :: vs, w, _ => (size_puts vs _ _).trans (size_set w _ v)
theorem On.puts {x : World} {N : Nat} (hN : x.heap.size ≤ N) : ∀ (vs : List Value) (w : World) (o : Nat), On x w → On x (putCells w N o vs)
 | [], _, _, h => h
 | v :: vs, _, _, h => On.puts hN vs _ _ (h.setNew hN v)
theorem results_cell {fn : Func} {q : Tmp} {ty : TypeId} (h : fn.results = #[.cell q ty]) (tmps : Array Value) (P : Program) (w : World) :
  (results fn tmps).run P w = ((asAddr (tmps.getD q undef)).run P w).andThen fun a w₁ => (loadVar ty a).run P w₁ := by
 simp only [results, h]
 simp [Sem.run_bind, Result.andThen]
theorem results_cell_slot {fn : Func} {p u : Tmp} {ty : TypeId} (h : fn.results = #[.cell p ty, .tmp u]) (tmps : Array Value) (P : Program) (w : World) :
  (results fn tmps).run P w = ((asAddr (tmps.getD p undef)).run P w).andThen fun a w₁ => ((loadVar ty a).run P w₁).andThen fun v w₂ => .ok (.tuple #[v, tmps.getD u undef]) w₂ := by
 simp only [results, h]
 simp [Sem.run_bind, Result.andThen]
end Go.Proofs.YtcfohakgokiedaaGreatDoor
