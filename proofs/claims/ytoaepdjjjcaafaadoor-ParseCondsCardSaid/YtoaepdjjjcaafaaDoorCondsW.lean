/- Rows of atoms that a law lays beside a text: in memory; and the text's bytes, atom by atom. -/
import Derived.Test.YtoaepdjjjcaafaaDoorCondsP
import Derived.Test.YtoaepdjjjcaafaaDoorSameW
import Derived.Test.YtoaepdjjjcaafaaDoorRefTextW
import Derived.Deep.RegionLaw
namespace Go.Proofs.YtoaepdjjjcaafaaDoor
open Go.RowKit

theorem On.grown {x w w' : World} {v : Value} (h : On x w) (hg : w.grownBy w' v.ownBlock) (hv : ∀ g, v.ownBlock = some g → x.heap.size ≤ g) : On x w' :=
  ⟨hg.os.trans h.os, hg.tape.trans h.tape, hg.output.trans h.output, Nat.le_trans h.size hg.size, fun k hk => (hg.block k (Nat.lt_of_lt_of_le hk h.size) (fun e => by have := hv k e.symm; omega)).trans (h.block k hk)⟩
theorem own_block {w : World} {base k n : Nat} {e : TypeId} {v : Value} {xs : List Value} (h : w.ownsRow base e k v n xs) {g : Nat} (hg : v.ownBlock = some g) : base ≤ g ∧ g < w.heap.size ∧ ∃ cs, w.heap[g]? = some (.cells cs e (0, 0)) := by
  rcases h.2 with ⟨hv, _⟩ | ⟨g', cap, cur, hv, hb, hh, _⟩
  · rw [hv] at hg; cases hg
  · rw [hv] at hg
    simp only [Value.ownBlock, Option.some.injEq] at hg
    subst hg
    exact ⟨hb, lt_of_block hh, cur, hh⟩
theorem own_set {w : World} {b k n go i : Nat} {e eo : TypeId} {v x : Value} {xs : List Value} (h : w.ownsRow b e k v n xs) {cs : Array Value} (hgo : w.heap[go]? = some (.cells cs eo (0, 0))) (hne : eo ≠ e) : (w.setCell ⟨go, i, none⟩ x).ownsRow b e k v n xs := by
  refine ⟨h.1, ?_⟩
  rcases h.2 with h2 | ⟨g, cap, cur, hv, hb, hh, r⟩
  · exact Or.inl h2
  · refine Or.inr ⟨g, cap, cur, hv, hb, (Below.heap_setCell _ _ _ _ (fun e' => ?_)).trans hh, r⟩
    subst e'
    rw [hh] at hgo
    simp only [Option.some.injEq, Obj.cells.injEq] at hgo
    exact hne hgo.2.1.symm

theorem own_last {w : World} {base go k cap : Nat} {e : TypeId} {ds : List Value} {u : Value} (h : w.ownsRow base e 1 (.slice (some ⟨go, 0, none⟩) (k + 1) cap) (k + 1) (ds ++ [u])) (hk : ds.length = k) : w.cell? ⟨go, k, none⟩ = some u ∧ w.frozen? ⟨go, k, none⟩ = false ∧ go < w.heap.size := by
  obtain ⟨_, h1, cs, h2⟩ := own_block h (g := go) rfl
  obtain ⟨g, cap', hv, _, _, _, hc⟩ := own_cells h (Nat.succ_pos _)
  simp only [Value.slice.injEq, Option.some.injEq, Addr.mk.injEq] at hv
  obtain ⟨⟨rfl, _, _⟩, _, _⟩ := hv
  exact ⟨hc k u (by rw [← hk]; simp), by simp [World.frozen?, h2], h1⟩
/-- v holds the rows D and, last, the row c, whose block no other row has. -/
def Wt (w : World) (base : Nat) (v : Value) (D : List (List AtomT)) (c : List AtomT) : Prop :=
  ∃ (ds : List Value) (u : Value) (bc : Nat), ds.length = D.length ∧ w.ownsRow base 29 1 v (D.length + 1) (ds ++ [u]) ∧
    (∀ (i : Nat) (u' : Value) (L : List AtomT), ds[i]? = some u' → D[i]? = some L → w.ownsRow base 27 4 u' L.length (L.flatMap atomC) ∧ ∀ g, u'.ownBlock = some g → g < bc) ∧
    base ≤ bc ∧ bc ≤ w.heap.size ∧ w.ownsRow bc 27 4 u c.length (c.flatMap atomC)
theorem eo_ne : (29 : TypeId) ≠ 27 := by decide
section
variable {w w' : World} {base : Nat} {v : Value} {D : List (List AtomT)} {c : List AtomT}
theorem Wt.on (h : Wt w base v D c) (o : On w w') : Wt w' base v D c := by
  obtain ⟨ds, u, bc, h1, h2, h3, h4, h5, h6⟩ := h
  exact ⟨ds, u, bc, h1, own_on h2 o, fun i u' L a b => ⟨own_on (h3 i u' L a b).1 o, (h3 i u' L a b).2⟩, h4, Nat.le_trans h5 o.size, own_on h6 o⟩
theorem Wt.any (h : Wt w base v D c) : AnyAt w base v (D ++ [c]) := by
  obtain ⟨ds, u, bc, h1, h2, h3, h4, h5, h6⟩ := h
  refine ⟨ds ++ [u], by simp [h1], by simpa using h2, fun i u' L a b => ?_⟩
  rcases Nat.lt_or_ge i ds.length with h | h
  · rw [List.getElem?_append_left h] at a
    rw [List.getElem?_append_left (by omega)] at b
    exact (h3 i u' L a b).1
  · have hi : i = ds.length := by
      rcases Nat.lt_or_ge ds.length i with h' | h'
      · rw [List.getElem?_eq_none (by simp; omega)] at a; cases a
      · omega
    subst hi
    simp only [List.getElem?_concat_length, Option.some.injEq] at a
    rw [h1] at b
    simp only [List.getElem?_concat_length, Option.some.injEq] at b
    subst a; subst b
    exact own_mono h6 h4
theorem Wt.first (w : World) (base : Nat) (hb : base ≤ w.heap.size) : Wt (w.alloc (.cells #[.slice none 0 0] 29)) base (.slice (some ⟨w.heap.size, 0, none⟩) 1 1) [] [] :=
  ⟨[], .slice none 0 0, w.heap.size, rfl, own_one w #[.slice none 0 0] 29 1 base rfl hb, fun i u' L a _ => by simp at a, hb, by simp, World.ownsRow_nil _ _ _ _⟩
/-- One row more, with nothing in it. -/
theorem Wt.next {ds : List Value} {u v' : Value} {bc : Nat} (h1 : ds.length = D.length) (h2 : w.ownsRow base 29 1 v (D.length + 1) (ds ++ [u]))
    (h3 : ∀ (i : Nat) (u' : Value) (L : List AtomT), ds[i]? = some u' → D[i]? = some L → w.ownsRow base 27 4 u' L.length (L.flatMap atomC) ∧ ∀ g, u'.ownBlock = some g → g < bc)
    (h4 : base ≤ bc) (h6 : w.ownsRow bc 27 4 u c.length (c.flatMap atomC)) (hg : w.grownBy w' v.ownBlock) (h2' : w'.ownsRow base 29 1 v' (D.length + 1 + 1) (ds ++ [u] ++ [.slice none 0 0])) : Wt w' base v' (D ++ [c]) [] := by
  have hb : base ≤ w'.heap.size := by
    rcases h2'.2 with ⟨_, h0⟩ | ⟨g, cap, cur, hv, hb, hh, _⟩
    · omega
    · exact Nat.le_trans hb (Nat.le_of_lt (lt_of_block hh))
  refine ⟨ds ++ [u], .slice none 0 0, w'.heap.size, by simp [h1], by simpa using h2', fun i u' L a b => ?_, hb, Nat.le_refl _, World.ownsRow_nil _ _ _ _⟩
  have key : w.ownsRow base 27 4 u' L.length (L.flatMap atomC) := by
    rcases Nat.lt_or_ge i ds.length with h | h
    · rw [List.getElem?_append_left h] at a
      rw [List.getElem?_append_left (by omega)] at b
      exact (h3 i u' L a b).1
    · have hi : i = ds.length := by
        rcases Nat.lt_or_ge ds.length i with h' | h'
        · rw [List.getElem?_eq_none (by simp; omega)] at a; cases a
        · omega
      subst hi
      simp only [List.getElem?_concat_length, Option.some.injEq] at a
      rw [h1] at b
      simp only [List.getElem?_concat_length, Option.some.injEq] at b
      subst a; subst b
      exact own_mono h6 h4
  exact ⟨own_far key h2 eo_ne hg, fun g e => Nat.lt_of_lt_of_le (own_block key e).2.1 hg.size⟩
/-- The last row gets an atom more. -/
theorem Wt.put {ds : List Value} {u v' : Value} {bc go cap : Nat} {a : AtomT} (h1 : ds.length = D.length) (h2 : w.ownsRow base 29 1 (.slice (some ⟨go, 0, none⟩) (D.length + 1) cap) (D.length + 1) (ds ++ [u]))
    (h3 : ∀ (i : Nat) (u' : Value) (L : List AtomT), ds[i]? = some u' → D[i]? = some L → w.ownsRow base 27 4 u' L.length (L.flatMap atomC) ∧ ∀ g, u'.ownBlock = some g → g < bc)
    (h4 : base ≤ bc) (h5 : bc ≤ w.heap.size) (h6 : w.ownsRow bc 27 4 u c.length (c.flatMap atomC)) (hg : w.grownBy w' u.ownBlock) (h6' : w'.ownsRow bc 27 4 v' (c.length + 1) (c.flatMap atomC ++ atomC a)) :
    Wt (w'.setCell ⟨go, D.length, none⟩ v') base (.slice (some ⟨go, 0, none⟩) (D.length + 1) cap) D (c ++ [a]) := by
  have h2' := own_far h2 h6 eo_ne.symm hg
  obtain ⟨_, hgl, cs, hgo⟩ := own_block h2' (g := go) rfl
  refine ⟨ds, v', bc, h1, ?_, fun i u' L hi hL => ?_, h4, ?_, ?_⟩
  · refine ⟨by simp [h1], Or.inr ?_⟩
    rcases h2'.2 with ⟨hv, h0⟩ | ⟨g, cap', cur, hv, hb, hh, hc, hm, hz, ht⟩
    · omega
    · simp only [Value.slice.injEq, Option.some.injEq, Addr.mk.injEq] at hv
      obtain ⟨⟨rfl, _, _⟩, _, rfl⟩ := hv
      refine ⟨go, cap, _, rfl, hb, heap_set hh, hc, hm, by simpa using hz, ?_⟩
      rw [Array.toList_setIfInBounds, List.take_set, ht, ← h1]
      simp
  · obtain ⟨k1, k2⟩ := h3 i u' L hi hL
    have k3 : w'.ownsRow base 27 4 u' L.length (L.flatMap atomC) := by
      refine ⟨k1.1, ?_⟩
      rcases k1.2 with q | ⟨g, cap', cur, hv, hb, hh, r⟩
      · exact Or.inl q
      · refine Or.inr ⟨g, cap', cur, hv, hb, (hg.block g (lt_of_block hh) (fun e => ?_)).trans hh, r⟩
        have e1 := k2 g (by rw [hv]; rfl)
        have e2 := (own_block h6 e.symm).1
        omega
    exact ⟨own_set k3 hgo eo_ne, k2⟩
  · have := hg.size
    simp [World.setCell]
    omega
  · have h7 := own_set (i := D.length) (x := v') h6' hgo eo_ne
    simpa using h7
end

/-! The bytes. -/
theorem atomB_app (d : AtomD) (q : List UInt8) : atomB d q = atomB d [] ++ q := by
  unfold atomB; split <;> simp
theorem itemB_app (o : Bool) (d : AtomD) (q : List UInt8) : itemB o d q = itemB o d [] ++ q := by
  unfold itemB; rw [atomB_app d q]; simp
theorem itemsB_app : ∀ (L : List (Bool × AtomD)) (q : List UInt8), itemsB L q = itemsB L [] ++ q
  | [], q => rfl
  | (o, d) :: L, q => by
    show itemB o d (itemsB L q) = itemB o d (itemsB L []) ++ q
    rw [itemB_app o d (itemsB L q), itemB_app o d (itemsB L []), itemsB_app L q, List.append_assoc]
theorem itemsB_snoc : ∀ (L : List (Bool × AtomD)) (o : Bool) (d : AtomD), itemsB (L ++ [(o, d)]) [] = itemsB L [] ++ itemB o d []
  | [], o, d => rfl
  | (o', d') :: L, o, d => by
    show itemB o' d' (itemsB (L ++ [(o, d)]) []) = itemB o' d' (itemsB L []) ++ itemB o d []
    rw [itemB_app o' d' (itemsB (L ++ [(o, d)]) []), itemB_app o' d' (itemsB L []), itemsB_snoc L o d, List.append_assoc]
theorem foldW_snoc : ∀ (L : List (Bool × AtomD)) (o : Bool) (d : AtomD) (D : List (List AtomT)) (c : List AtomT), foldW (L ++ [(o, d)]) D c = if o then ((foldW L D c).1 ++ [(foldW L D c).2], [atomT d]) else ((foldW L D c).1, (foldW L D c).2 ++ [atomT d])
  | [], o, d, D, c => by cases o <;> rfl
  | (true, d') :: L, o, d, D, c => by
    show foldW (L ++ [(o, d)]) (D ++ [c]) [atomT d'] = _
    rw [foldW_snoc L o d]
    rfl
  | (false, d') :: L, o, d, D, c => by
    show foldW (L ++ [(o, d)]) D (c ++ [atomT d']) = _
    rw [foldW_snoc L o d]
    rfl
def preB : List UInt8 := [116, 101, 115, 116, 32, 97, 32, 123, 32, 116, 104, 114, 101, 97, 100, 32, 123, 32, 125, 32, 102, 111, 114, 97, 108, 108]
/-- Behind n atoms: the text, the rows. -/
def Told (n : Nat) (S : ByteArray) (D : List (List AtomT)) (c : List AtomT) : Prop :=
  (n = 0 ∧ S.data.toList = preB ∧ D = [] ∧ c = []) ∨ (∃ d L, n = L.length + 1 ∧ S.data.toList = preB ++ (atomB d [] ++ itemsB L []) ∧ (D, c) = foldW L [] [atomT d])
theorem Told.zero {S : ByteArray} (h : S.data.toList = preB) : Told 0 S [] [] := Or.inl ⟨rfl, h, rfl, rfl⟩
theorem Told.one {S S' : ByteArray} {D : List (List AtomT)} {c : List AtomT} (h : Told 0 S D c) (d : AtomD) (hS : S'.data.toList = S.data.toList ++ atomB d []) : D = [] ∧ c = [] ∧ Told 1 S' D (c ++ [atomT d]) := by
  rcases h with ⟨_, h2, rfl, rfl⟩ | ⟨d', L, h1, _⟩
  · exact ⟨rfl, rfl, Or.inr ⟨d, [], rfl, by rw [hS, h2]; simp [itemsB], rfl⟩⟩
  · omega
theorem Told.or {n : Nat} {S S' : ByteArray} {D : List (List AtomT)} {c : List AtomT} (h : Told n S D c) (hn : 0 < n) (d : AtomD) (hS : S'.data.toList = S.data.toList ++ itemB true d []) : Told (n + 1) S' (D ++ [c]) [atomT d] := by
  rcases h with ⟨h1, _⟩ | ⟨d', L, h1, h2, h3⟩
  · omega
  · refine Or.inr ⟨d', L ++ [(true, d)], by simp [h1], by rw [hS, h2, itemsB_snoc]; simp, ?_⟩
    rw [foldW_snoc, ← h3]
    rfl
theorem Told.and {n : Nat} {S S' : ByteArray} {D : List (List AtomT)} {c : List AtomT} (h : Told n S D c) (hn : 0 < n) (d : AtomD) (hS : S'.data.toList = S.data.toList ++ itemB false d []) : Told (n + 1) S' D (c ++ [atomT d]) := by
  rcases h with ⟨h1, _⟩ | ⟨d', L, h1, h2, h3⟩
  · omega
  · refine Or.inr ⟨d', L ++ [(false, d)], by simp [h1], by rw [hS, h2, itemsB_snoc]; simp, ?_⟩
    rw [foldW_snoc, ← h3]
    rfl
theorem Told.parse {n : Nat} {S : ByteArray} {D : List (List AtomT)} {c : List AtomT} (h : Told n S D c) (hn : 0 < n) (hz : S.size ≤ 3000) : parseP (S ++ ⟨#[32, 59, 32, 125]⟩) = (⟨⟨#[97]⟩, [], [[]], ⟨2, D ++ [c]⟩⟩, 0, 0) := by
  rcases h with ⟨h1, _⟩ | ⟨d, L, h1, h2, h3⟩
  · omega
  · have hl : (S ++ ⟨#[32, 59, 32, 125]⟩ : ByteArray).data.toList = condsL d L := by
      rw [list_append, h2]
      unfold condsL
      rw [atomB_app d (itemsB L _), itemsB_app L (32 :: _)]
      simp [preB]
    have hz' : (S ++ ⟨#[32, 59, 32, 125]⟩ : ByteArray).size ≤ 4000 := by
      have e1 := size_list (S ++ ⟨#[32, 59, 32, 125]⟩)
      rw [list_append, List.length_append, ← size_list S] at e1
      have e2 : (⟨#[32, 59, 32, 125]⟩ : ByteArray).data.toList.length = 4 := rfl
      omega
    rw [conds_is d L hl hz']
    have h4 := foldW_is L [] [atomT d]
    rw [← h3] at h4
    simp only [List.nil_append, List.cons_append] at h4
    rw [← h4]

/-! Numbers as bytes. -/
theorem itoa_dig : ∀ n : Fin 8, Lib.itoa (n.val : Int) = digB n.val := by decide +kernel
theorem itoa_neg : ∀ n : Fin 8, Lib.itoa (-(n.val : Int)) = negB n.val := by decide +kernel
theorem digB_len (n : Nat) : (digB n).length = 1 := rfl
theorem negB_len (n : Nat) : (negB n).length ≤ 2 := by unfold negB; split <;> simp
end Go.Proofs.YtoaepdjjjcaafaaDoor
