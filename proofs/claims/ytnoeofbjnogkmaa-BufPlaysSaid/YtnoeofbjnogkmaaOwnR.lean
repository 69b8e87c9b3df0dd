/- Rows that a call makes itself, rows of rows, and that they can be read. -/
import Derived.Test.YtnoeofbjnogkmaaReads
import Derived.Deep.LoopGhost
import Derived.Deep.RegionLaw
import Derived.Laws.MakeOwn
import Derived.Maps.AppendAt
namespace Go.Proofs.Ytnoeofbjnogkmaa
open Go.RowKit

theorem On.grown {x w w' : World} {v : Value} (h : On x w) (hg : w.grownBy w' v.ownBlock) (hv : ∀ g, v.ownBlock = some g → x.heap.size ≤ g) : On x w' :=
  ⟨hg.os.trans h.os, hg.tape.trans h.tape, hg.output.trans h.output, Nat.le_trans h.size hg.size, fun k hk => (hg.block k (Nat.lt_of_lt_of_le hk h.size) (fun e => by have := hv k e.symm; omega)).trans (h.block k hk)⟩
theorem On.grownNone {x w w' : World} (h : On x w) (hg : w.grownBy w' none) : On x w' :=
  ⟨hg.os.trans h.os, hg.tape.trans h.tape, hg.output.trans h.output, Nat.le_trans h.size hg.size, fun k hk => (hg.block k (Nat.lt_of_lt_of_le hk h.size) (fun e => by cases e)).trans (h.block k hk)⟩
theorem own_mono {w : World} {base base' k n : Nat} {e : TypeId} {v : Value} {xs : List Value} (h : w.ownsRow base e k v n xs) (hb : base' ≤ base) : w.ownsRow base' e k v n xs := by
  refine ⟨h.1, ?_⟩
  rcases h.2 with h2 | ⟨g, cap, cur, hv, hg, r⟩
  · exact Or.inl h2
  · exact Or.inr ⟨g, cap, cur, hv, by omega, r⟩
theorem own_on {w w' : World} {base k n : Nat} {e : TypeId} {v : Value} {xs : List Value} (h : w.ownsRow base e k v n xs) (o : On w w') : w'.ownsRow base e k v n xs := by
  refine ⟨h.1, ?_⟩
  rcases h.2 with h2 | ⟨g, cap, cur, hv, hb, hh, r⟩
  · exact Or.inl h2
  · exact Or.inr ⟨g, cap, cur, hv, hb, (o.block g (lt_of_block hh)).trans hh, r⟩
/-- A row of one, just laid. -/
theorem own_one (w : World) (cs : Array Value) (e : TypeId) (k base : Nat) (hk : cs.size = k) (hb : base ≤ w.heap.size) : (w.alloc (.cells cs e)).ownsRow base e k (.slice (some ⟨w.heap.size, 0, none⟩) 1 1) 1 cs.toList := by
  refine ⟨by simp [hk], Or.inr ⟨w.heap.size, 1, cs, rfl, hb, heap_alloc_new w _, Nat.le_refl _, by decide, by simp [hk], ?_⟩⟩
  rw [List.take_of_length_le (by simp [hk])]
theorem new_cell (w : World) (cs : Array Value) (T : TypeId) (j : Nat) : (w.alloc (.cells cs T)).cell? ((⟨w.heap.size, 0, none⟩ : Addr).add j) = cs.toList[j]? := by
  have h := heap_alloc_new w (.cells cs T)
  rw [Addr.add_lit, Nat.zero_add, Array.getElem?_toList]
  unfold World.cell?
  simp only [h]
  rfl
theorem own_slice {w : World} {base k n : Nat} {e : TypeId} {v : Value} {xs : List Value} (h : w.ownsRow base e k v n xs) : ∃ a c, v = .slice a n c := by
  rcases h.2 with ⟨hv, h0⟩ | ⟨g, cap, cur, hv, _⟩
  · exact ⟨_, 0, by rw [hv, h0]⟩
  · exact ⟨_, _, hv⟩
theorem own_far {w w' : World} {b1 b2 k1 k2 n m : Nat} {eo ei : TypeId} {u v : Value} {xs ys : List Value} (h : w.ownsRow b1 ei k1 u n xs) (ho : w.ownsRow b2 eo k2 v m ys) (hne : eo ≠ ei) (hg : w.grownBy w' v.ownBlock) : w'.ownsRow b1 ei k1 u n xs := by
  refine ⟨h.1, ?_⟩
  rcases h.2 with h2 | ⟨g, cap, cur, hv, hb, hh, r⟩
  · exact Or.inl h2
  · refine Or.inr ⟨g, cap, cur, hv, hb, (hg.block g (lt_of_block hh) (fun e => ?_)).trans hh, r⟩
    rcases ho.2 with ⟨hv2, _⟩ | ⟨g2, cap2, cur2, hv2, hb2, hh2, _⟩
    · rw [hv2] at e; cases e
    · rw [hv2] at e
      simp only [Value.ownBlock, Option.some.injEq] at e
      subst e
      rw [hh] at hh2
      simp only [Option.some.injEq, Obj.cells.injEq] at hh2
      exact hne hh2.2.1.symm
theorem Bk.grown {w w' : World} {N base : Nat} {cs : Array Value} {v : Value} (h : Bk w N cs) (hg : w.grownBy w' v.ownBlock) (hN : N < base) (ho : ∀ g, v.ownBlock = some g → base ≤ g) : Bk w' N cs := by
  obtain ⟨T, e⟩ := h
  exact ⟨T, (hg.block N (lt_of_block e) (fun h => by have := ho N h.symm; omega)).trans e⟩

/-- append to a row of the call's own, as one step of a region that draws. -/
theorem step_append_own {P : Program} {ops : Array Oper} {o : Oper} {a : Act} {w : World} {K : Act → World → Prop} {Q : Exit → Act → World → Prop} {E : Prop} (hg : o.guard = none) (s x : Operand) (t : TypeId)
    (ho : o.op = .call { callee := .builtin .append, args := #[s, x], argTypes := #[t, t] })
    (base : Nat) (e : TypeId) (i : TypeInfo) (z : Value) (size bytes : Nat) (ht : P.underlying t = some (.slice e)) (hi : P.info? e = some i) (hz : i.zero = some z)
    (hsize : i.size = size) (hby : i.bytes = bytes) (hzs : z.cells.size = size) (hsz : 0 < size)
    (v : Value) (n : Nat) (xs : List Value) (hs : a.eval s = v) (hown : w.ownsRow base e size v n xs)
    (ad : Addr) (m c : Nat) (news : List Value) (hx : a.eval x = .slice (some ad) m c) (hl : news.length = m * size) (hnews : ∀ j u, news[j]? = some u → w.cell? (ad.add j) = some u) (h1 : ∀ u ∈ news, u.oneCell' = true)
    (h63 : n + m ≤ maxLen) (hbytes : (n + m) * bytes ≤ 140737488355328) (hbase : base ≤ w.heap.size)
    (h : ∀ v' w', w'.ownsRow base e size v' (n + m) (xs ++ news) → w.grownBy w' v.ownBlock → K (a.put o.dst v') w') : if Region.wanted o (yielded ops a.tmps) = true then Oper.wp P o a w K Q else E := by
  have hw : Region.wanted o (yielded ops a.tmps) = true := by simp [Region.wanted, hg]
  rw [if_pos hw]
  exact wp_append_own w s x t ho base e i z size bytes ht hi hz hsize hby hzs hsz v n xs hs hown ad m c news hx hl hnews h1 h63 hbytes hbase fun v' w' h2 h3 _ => h v' w' h2 h3

/-- v holds rows of rows. -/
def Own2 {α : Type} (C : α → List Value) (k : Nat) (eo ei : TypeId) (w : World) (base : Nat) (v : Value) (LL : List (List α)) : Prop :=
  ∃ vs : List Value, vs.length = LL.length ∧ w.ownsRow base eo 1 v LL.length vs ∧ ∀ (i : Nat) (u : Value) (L : List α), vs[i]? = some u → LL[i]? = some L → w.ownsRow base ei k u L.length (L.flatMap C)
section
variable {α : Type} {C : α → List Value} {k : Nat} {eo ei : TypeId} {w w' : World} {base : Nat} {v : Value} {LL : List (List α)}
theorem Own2.on (h : Own2 C k eo ei w base v LL) (o : On w w') : Own2 C k eo ei w' base v LL := by
  obtain ⟨vs, h1, h2, h3⟩ := h
  exact ⟨vs, h1, own_on h2 o, fun i u L a b => own_on (h3 i u L a b) o⟩
theorem Own2.nil (C : α → List Value) (k : Nat) (eo ei : TypeId) (w : World) (base : Nat) : Own2 C k eo ei w base (.slice none 0 0) [] :=
  ⟨[], rfl, World.ownsRow_nil _ _ _ _, fun i u L a _ => by simp at a⟩
theorem Own2.snoc {vs : List Value} {v' u : Value} {L : List α} (hn : vs.length = LL.length) (ho : w.ownsRow base eo 1 v LL.length vs) (hs : ∀ (i : Nat) (u : Value) (L : List α), vs[i]? = some u → LL[i]? = some L → w.ownsRow base ei k u L.length (L.flatMap C))
    (hne : eo ≠ ei) (hg : w.grownBy w' v.ownBlock) (ho' : w'.ownsRow base eo 1 v' (LL.length + 1) (vs ++ [u])) (hu : w.ownsRow base ei k u L.length (L.flatMap C)) : Own2 C k eo ei w' base v' (LL ++ [L]) := by
  refine ⟨vs ++ [u], by simp [hn], by simpa using ho', fun i x M a b => ?_⟩
  rcases Nat.lt_or_ge i vs.length with h | h
  · rw [List.getElem?_append_left h] at a
    rw [List.getElem?_append_left (by omega)] at b
    exact own_far (hs i x M a b) ho hne hg
  · have hi : i = vs.length := by
      rcases Nat.lt_or_ge vs.length i with h' | h'
      · rw [List.getElem?_eq_none (by simp; omega)] at a; cases a
      · omega
    subst hi
    simp only [List.getElem?_concat_length, Option.some.injEq] at a
    rw [hn] at b
    simp only [List.getElem?_concat_length, Option.some.injEq] at b
    subst a; subst b
    exact own_far hu ho hne hg
theorem Own2.slice (h : Own2 C k eo ei w base v LL) : ∃ a c, v = .slice a LL.length c := by
  obtain ⟨vs, _, h2, _⟩ := h
  exact own_slice h2
theorem flat_one : ∀ vs : List Value, vs.flatMap oneC = vs
  | [] => rfl
  | v :: vs => by rw [List.flatMap_cons, flat_one vs]; rfl
/-- Such rows can be read. -/
theorem Own2.rd (hC : ∀ x, (C x).length = k) (h : Own2 C k eo ei w base v LL) : Rd2 C k w v LL := by
  obtain ⟨vs, h1, h2, h3⟩ := h
  refine ⟨vs, h1, Rd.own (fun _ => rfl) (e := eo) (base := base) (by rw [flat_one, h1]; exact h2), fun i u L a b => Rd.own hC (h3 i u L a b)⟩
end
end Go.Proofs.Ytnoeofbjnogkmaa
