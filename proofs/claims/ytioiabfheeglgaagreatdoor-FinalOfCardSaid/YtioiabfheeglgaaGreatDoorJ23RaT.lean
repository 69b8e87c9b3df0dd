/- The document's rows of executions in order, in plain Lean. Of no memory. -/
import Derived.Test.YtioiabfheeglgaaGreatDoorJ12RDoW
import Derived.Test.YtioiabfheeglgaaGreatDoorJ22ExD
import Derived.Test.YtioiabfheeglgaaGreatDoorJ19EvB
namespace Go.Proofs.YtioiabfheeglgaaGreatDoor

/-- Where an execution belongs, looked for by halves. -/
def bsP (L : List ExT) (x : ExT) : Nat → Nat → Nat → Nat
 | 0, lo, _ => lo
 | n + 1, lo, hi => if lo < hi then (if exCmp (L.getD ((lo + hi) / 2) x) x < 0 then bsP L x n ((lo + hi) / 2 + 1) hi else bsP L x n lo ((lo + hi) / 2)) else lo
theorem bs_end (L : List ExT) (x : ExT) (n lo : Nat) : bsP L x n lo lo = lo := by
 cases n with
 | zero => rfl
 | succ n => rw [bsP, if_neg (Nat.lt_irrefl _)]
theorem bs_le (L : List ExT) (x : ExT) : ∀ (n lo hi : Nat), lo ≤ hi → hi ≤ L.length → bsP L x n lo hi ≤ L.length
 | 0, lo, hi, h, k => by unfold bsP; omega
 | n + 1, lo, hi, h, k => by
  unfold bsP
  split
  ·
   split
   ·
    exact bs_le L x n _ _ (by omega) k
   ·
    exact bs_le L x n _ _ (by omega) (by omega)
  ·
   omega
/-- Where x belongs in L. -/
def putAtP (L : List ExT) (x : ExT) : Nat := bsP L x (L.length + 1) 0 L.length
/-- Is it there already? -/
def putHasP (L : List ExT) (x : ExT) : Bool := decide (putAtP L x < L.length) && (exCmp (L.getD (putAtP L x) x) x == 0)
def putP (L : List ExT) (x : ExT) : List ExT := if putHasP L x then L else L.take (putAtP L x) ++ x :: L.drop (putAtP L x)
theorem putAt_le (L : List ExT) (x : ExT) : putAtP L x ≤ L.length := bs_le L x _ _ _ (Nat.zero_le _) (Nat.le_refl _)
theorem put_len (L : List ExT) (x : ExT) : L.length ≤ (putP L x).length ∧ (putP L x).length ≤ L.length + 1 := by
 unfold putP
 have := putAt_le L x
 split
 ·
  omega
 ·
  simp
  omega
/-- Rows that go on with what is left, in any order. -/
def permP : Nat → List Int → List Int → List (List Int)
 | 0, row, _ => [row]
 | n + 1, row, left => (List.range (n + 1)).flatMap fun i => permP n (row ++ [left.getD i 0]) (left.eraseIdx i)
/-- The other writes of a location. -/
def wlB (E : List EvT) (c i : Nat) : Bool := wrsB (E.getD i evZ).k && ((E.getD i evZ).l == (c : Int)) && ((i : Int) != (c : Int))
def wleftP (E : List EvT) (c : Nat) (n : Nat) : List Int := ((List.range n).filter (wlB E c)).map Int.ofNat
/-- An execution with every order of the writes of m more locations. -/
def ordP : Nat → ExT → List ExT
 | 0, x => [x]
 | m + 1, x => (permP (wleftP x.evs x.co.length x.evs.length).length [(x.co.length : Int)] (wleftP x.evs x.co.length x.evs.length)).flatMap fun r => ordP m ⟨x.evs, x.rf, x.co ++ [r]⟩
/-- One by one, as long as there are no more than most. -/
def runP (most : Nat) : List ExT → List ExT → Option (List ExT)
 | L, [] => some L
 | L, c :: cs => if (putP L c).length ≤ most then runP most (putP L c) cs else none
theorem run_app (most : Nat) : ∀ (A L B : List ExT), runP most L (A ++ B) = (runP most L A).bind fun L' => runP most L' B
 | [], _, _ => rfl
 | c :: A, L, B => by
  rw [List.cons_append, runP, runP]
  split
  ·
   exact run_app most A _ B
  ·
   rfl
theorem run_le {most : Nat} : ∀ {A L L' : List ExT}, L.length ≤ most → runP most L A = some L' → L'.length ≤ most
 | [], _, _, h, e => by rw [runP] at e; obtain rfl := Option.some.inj e; exact h
 | c :: A, L, L', h, e => by
  rw [runP] at e
  split at e
  ·
   rename_i h2; exact run_le h2 e
  ·
   cases e
theorem wleft_succ (E : List EvT) (c n : Nat) : wleftP E c (n + 1) = wleftP E c n ++ (if wlB E c n then [(n : Int)] else []) := by
 unfold wleftP
 rw [List.range_succ, List.filter_append, List.map_append]
 congr 1
 by_cases h : wlB E c n = true
 ·
  simp [h]
 ·
  simp [h]
theorem wleft_len (E : List EvT) (c n : Nat) : (wleftP E c n).length ≤ n := by
 unfold wleftP
 rw [List.length_map]
 exact Nat.le_trans (List.length_filter_le _ _) (by simp)
/-- The first i groups. -/
def preL (G : Nat → List ExT) (i : Nat) : List ExT := (List.range i).flatMap G
theorem pre_succ (G : Nat → List ExT) (i : Nat) : preL G (i + 1) = preL G i ++ G i := by
 unfold preL
 rw [List.range_succ, List.flatMap_append]
 simp
theorem run_pre {most : Nat} {L LI : List ExT} {G : Nat → List ExT} {i : Nat} (h : runP most L (preL G i) = some LI) : runP most L (preL G (i + 1)) = runP most LI (G i) := by
 rw [pre_succ, run_app, h]
 rfl
theorem run_none {most : Nat} {L LI : List ExT} {G : Nat → List ExT} {i : Nat} (h : runP most L (preL G i) = some LI) (h2 : runP most LI (G i) = none) : ∀ n, i < n → runP most L (preL G n) = none
 | 0, hn => by omega
 | n + 1, hn => by
  rcases Nat.lt_or_ge i n with hlt | hge
  ·
   rw [pre_succ, run_app, run_none h h2 n hlt]
   rfl
  ·
   obtain rfl : i = n := by omega
   rw [run_pre h, h2]
theorem perm_pre (n : Nat) (row left : List Int) (f : List Int → List ExT) : (permP (n + 1) row left).flatMap f = preL (fun i => (permP n (row ++ [left.getD i 0]) (left.eraseIdx i)).flatMap f) (n + 1) := by
 rw [permP]
 unfold preL
 rw [List.flatMap_assoc]
end Go.Proofs.YtioiabfheeglgaaGreatDoor

namespace Go.Proofs.YtioiabfheeglgaaGreatDoor
open Go.RowKit

abbrev TX : TypeId := 41
abbrev TS : TypeId := 29
/-- v holds this list, in a block of cells of type T. -/
def RdT {α : Type} (T : TypeId) (C : α → List Value) (k : Nat) (w : World) (v : Value) (L : List α) : Prop :=
 Rd C k w v L ∧ ∀ (g off n c : Nat), v = .slice (some ⟨g, off, none⟩) n c → 0 < L.length → ∃ cs fr, w.heap[g]? = some (.cells cs T fr)
/-- All blocks stand but those of cells of executions, and of rows of them. -/
structure Ky (w w' : World) : Prop where
 size : w.heap.size ≤ w'.heap.size
 block : ∀ (g : Nat) cs T fr, w.heap[g]? = some (.cells cs T fr) → T ≠ TX → T ≠ TS → w'.heap[g]? = w.heap[g]?
theorem Ky.refl (w : World) : Ky w w := ⟨Nat.le_refl _, fun _ _ _ _ _ _ _ => rfl⟩
theorem Ky.on {w w' : World} (h : On w w') : Ky w w' := ⟨h.size, fun g _ _ _ e _ _ => h.block g (lt_of_block e)⟩
theorem Ky.trans {a b c : World} (h : Ky a b) (k : Ky b c) : Ky a c :=
 ⟨Nat.le_trans h.size k.size, fun g cs T fr e h1 h2 => (k.block g cs T fr ((h.block g cs T fr e h1 h2).trans e) h1 h2).trans (h.block g cs T fr e h1 h2)⟩
theorem Ky.drew {w w' : World} (h : Ky w w') : Ky w w'.drew := ⟨h.size, h.block⟩
theorem Ky.grown {w w' : World} {base k n : Nat} {v : Value} {xs : List Value} (ho : w.ownsRow base TX k v n xs) (hg : w.grownBy w' v.ownBlock) : Ky w w' := by
 refine ⟨hg.size, fun g cs T fr e h1 _ => hg.block g (lt_of_block e) (fun eq => ?_)⟩
 rcases ho.2 with ⟨hv, _⟩ | ⟨g2, cap, cur, hv, hb, hh, _⟩
 ·
  rw [hv] at eq; cases eq
 ·
  rw [hv] at eq
  simp only [Value.ownBlock, Option.some.injEq] at eq
  subst eq
  rw [e] at hh
  simp only [Option.some.injEq, Obj.cells.injEq] at hh
  exact h1 hh.2.1
theorem Ky.row {w : World} {N : Nat} {cs : Array Value} {T : TypeId} {fr : Nat × Nat} (h : w.heap[N]? = some (.cells cs T fr)) (hT : T = TX ∨ T = TS) (c : Array Value) : Ky w (w.setRow N c) := by
 refine ⟨by rw [size_setRow]; exact Nat.le_refl _, fun g cs' T' fr' e h1 h2 => setRow_other w N g c (fun eq => ?_)⟩
 subst eq
 rw [h] at e
 simp only [Option.some.injEq, Obj.cells.injEq] at e
 rcases hT with rfl | rfl
 ·
  exact h1 e.2.1.symm
 ·
  exact h2 e.2.1.symm
theorem Ky.set {w : World} {N i : Nat} {cs : Array Value} {T : TypeId} {fr : Nat × Nat} (h : w.heap[N]? = some (.cells cs T fr)) (hT : T = TX ∨ T = TS) (u : Value) : Ky w (w.setCell ⟨N, i, none⟩ u) := by
 refine ⟨by rw [World.size_setCell]; exact Nat.le_refl _, fun g cs' T' fr' e h1 h2 => Below.heap_setCell _ _ _ _ ?_⟩
 show g ≠ N
 rintro rfl
 rw [h] at e
 simp only [Option.some.injEq, Obj.cells.injEq] at e
 rcases hT with rfl | rfl
 ·
  exact h1 e.2.1.symm
 ·
  exact h2 e.2.1.symm
section
variable {α : Type} {T : TypeId} {C : α → List Value} {k : Nat} {w w' : World} {v : Value} {L : List α}
theorem RdT.ky (h : RdT T C k w v L) (o : Ky w w') (h1 : T ≠ TX) (h2 : T ≠ TS) : RdT T C k w' v L := by
 obtain ⟨⟨a, c, hv, hc, hm, hr⟩, ht⟩ := h
 have key : ∀ (g off n c : Nat), v = .slice (some ⟨g, off, none⟩) n c → 0 < L.length → w'.heap[g]? = w.heap[g]? := fun g off n c e h0 => by
  obtain ⟨cs, fr, e2⟩ := ht g off n c e h0
  exact o.block g cs T fr e2 h1 h2
 refine ⟨⟨a, c, hv, hc, hm, fun hl => ?_⟩, fun g off n c e h0 => ?_⟩
 ·
  obtain ⟨g, off, ha, hg, hcell⟩ := hr hl
  refine ⟨g, off, ha, Nat.lt_of_lt_of_le hg o.size, fun i x j u hi hj => ?_⟩
  rw [← hcell i x j u hi hj]
  exact World.cell?_of_block (key g off _ c (by rw [hv, ha]) hl)
 ·
  obtain ⟨cs, fr, e2⟩ := ht g off n c e h0
  exact ⟨cs, fr, (key g off n c e h0).trans e2⟩
theorem RdT.on (h : RdT T C k w v L) (o : On w w') : RdT T C k w' v L :=
 ⟨h.1.on o, fun g off n c e h0 => by
  obtain ⟨cs, fr, e2⟩ := h.2 g off n c e h0
  exact ⟨cs, fr, (o.block g (lt_of_block e2)).trans e2⟩⟩
theorem RdT.own {base : Nat} (hC : ∀ x, (C x).length = k) (h : w.ownsRow base T k v L.length (L.flatMap C)) : RdT T C k w v L := by
 refine ⟨Rd.own hC h, fun g off n c e h0 => ?_⟩
 rcases h.2 with ⟨_, hz⟩ | ⟨g2, cap, cur, hv, hb, hh, _⟩
 ·
  omega
 ·
  rw [hv] at e
  simp only [Value.slice.injEq, Option.some.injEq, Addr.mk.injEq] at e
  obtain ⟨⟨rfl, _⟩, _⟩ := e
  exact ⟨cur, _, hh⟩
theorem RdT.nil (T : TypeId) (C : α → List Value) (k : Nat) (w : World) : RdT T C k w (.slice none 0 0) ([] : List α) :=
 ⟨Rd.nil _ _ _, fun g off n c e => by cases e⟩
end
/-- Rows of numbers, in blocks of their types. -/
def RdT2 (w : World) (v : Value) (LL : List (List Int)) : Prop :=
 ∃ vs : List Value, vs.length = LL.length ∧ RdT 22 oneC 1 w v vs ∧ ∀ (i : Nat) (u : Value) (L : List Int), vs[i]? = some u → LL[i]? = some L → RdT 3 intC 1 w u L
theorem tI1 : (22 : TypeId) ≠ TX := by decide
theorem tI2 : (22 : TypeId) ≠ TS := by decide
theorem tN1 : (3 : TypeId) ≠ TX := by decide
theorem tN2 : (3 : TypeId) ≠ TS := by decide
theorem tE1 : (58 : TypeId) ≠ TX := by decide
theorem tE2 : (58 : TypeId) ≠ TS := by decide
theorem RdT2.ky {w w' : World} {v : Value} {LL : List (List Int)} (h : RdT2 w v LL) (o : Ky w w') : RdT2 w' v LL := by
 obtain ⟨vs, h1, h2, h3⟩ := h
 exact ⟨vs, h1, h2.ky o tI1 tI2, fun i u L a b => (h3 i u L a b).ky o tN1 tN2⟩
theorem RdT2.rd {w : World} {v : Value} {LL : List (List Int)} (h : RdT2 w v LL) : Rd2 intC 1 w v LL := by
 obtain ⟨vs, h1, h2, h3⟩ := h
 exact ⟨vs, h1, h2.1, fun i u L a b => (h3 i u L a b).1⟩
abbrev Tri := Value × Value × Value
def triC (t : Tri) : List Value := [t.1, t.2.1, t.2.2]
def triV (t : Tri) : Value := .agg #[t.1, t.2.1, t.2.2]
theorem triC_len (t : Tri) : (triC t).length = 3 := rfl
/-- These three slices are this execution. -/
structure ExTd (w : World) (t : Tri) (x : ExT) : Prop where
 ex : ∃ a1 c1 a2 c2 a3 c3, t = (.slice a1 x.evs.length c1, .slice a2 x.rf.length c2, .slice a3 x.co.length c3)
 evs : RdT 58 evC 6 w t.1 x.evs
 rf : RdT 3 intC 1 w t.2.1 x.rf
 co : RdT2 w t.2.2 x.co
theorem ExTd.ky {w w' : World} {t : Tri} {x : ExT} (h : ExTd w t x) (o : Ky w w') : ExTd w' t x :=
 ⟨h.ex, h.evs.ky o tE1 tE2, h.rf.ky o tN1 tN2, h.co.ky o⟩
theorem ExTd.on {w w' : World} {t : Tri} {x : ExT} (h : ExTd w t x) (o : On w w') : ExTd w' t x := h.ky (Ky.on o)
theorem ExTd.rd {w : World} {t : Tri} {x : ExT} (h : ExTd w t x) : ExRd w (triV t) x := by
 obtain ⟨a1, c1, a2, c2, a3, c3, e⟩ := h.ex
 have h1 := h.evs.1
 have h2 := h.rf.1
 have h3 := h.co.rd
 subst e
 exact ⟨a1, c1, a2, c2, a3, c3, rfl, h1, h2, h3⟩
theorem ExTd.one {w : World} {t : Tri} {x : ExT} (h : ExTd w t x) : ∀ u ∈ triC t, u.oneCell' = true := by
 obtain ⟨a1, c1, a2, c2, a3, c3, e⟩ := h.ex
 subst e
 intro u hu
 simp only [triC, List.mem_cons, List.not_mem_nil, or_false] at hu
 rcases hu with rfl | rfl | rfl <;> rfl
/-- v is a row of the call's own of these executions. -/
def OwX (w : World) (b : Nat) (v : Value) (L : List ExT) : Prop :=
 ∃ vs : List Tri, vs.length = L.length ∧ w.ownsRow b TX 3 v L.length (vs.flatMap triC) ∧ ∀ (i : Nat) (t : Tri) (x : ExT), vs[i]? = some t → L[i]? = some x → ExTd w t x
theorem OwX.on {w w' : World} {b : Nat} {v : Value} {L : List ExT} (h : OwX w b v L) (o : On w w') : OwX w' b v L := by
 obtain ⟨vs, h1, h2, h3⟩ := h
 exact ⟨vs, h1, own_on h2 o, fun i t x a b => (h3 i t x a b).on o⟩
theorem OwX.nil (w : World) (b : Nat) : OwX w b (.slice none 0 0) [] := ⟨[], rfl, World.ownsRow_nil _ _ _ _, fun i t x a _ => by simp at a⟩
theorem OwX.slice {w : World} {b : Nat} {v : Value} {L : List ExT} (h : OwX w b v L) : ∃ a c, v = .slice a L.length c := by
 obtain ⟨vs, _, h2, _⟩ := h
 exact own_slice h2
/-- What stands: all but block N and the row's own block; the row's next block is the old one or a new one. -/
structure Fx (N : Nat) (v v' : Value) (w w' : World) : Prop where
 os : w'.os = w.os
 tape : w'.tape = w.tape
 output : w'.output = w.output
 size : w.heap.size ≤ w'.heap.size
 block : ∀ g, g < w.heap.size → g ≠ N → v.ownBlock ≠ some g → w'.heap[g]? = w.heap[g]?
 next : v'.ownBlock = v.ownBlock ∨ ∀ g, v'.ownBlock = some g → w.heap.size ≤ g
theorem Fx.refl (N : Nat) (v : Value) (w : World) : Fx N v v w w := ⟨rfl, rfl, rfl, Nat.le_refl _, fun _ _ _ _ => rfl, Or.inl rfl⟩
theorem Fx.on {w w' : World} (N : Nat) (v : Value) (h : On w w') : Fx N v v w w' := ⟨h.os, h.tape, h.output, h.size, fun g hg _ _ => h.block g hg, Or.inl rfl⟩
theorem Fx.trans {N : Nat} {v v' v'' : Value} {a b c : World} (h : Fx N v v' a b) (k : Fx N v' v'' b c) : Fx N v v'' a c := by
 refine ⟨k.os.trans h.os, k.tape.trans h.tape, k.output.trans h.output, Nat.le_trans h.size k.size, fun g hg hN hv => ?_, ?_⟩
 ·
  refine (k.block g (Nat.lt_of_lt_of_le hg h.size) hN (fun e => ?_)).trans (h.block g hg hN hv)
  rcases h.next with e2 | e2
  ·
   exact hv (e2 ▸ e)
  ·
   have := e2 g e; omega
 ·
  rcases k.next with e | e
  ·
   rcases h.next with e2 | e2
   ·
    exact Or.inl (e.trans e2)
   ·
    exact Or.inr fun g hg => e2 g (e ▸ hg)
  ·
   exact Or.inr fun g hg => Nat.le_trans h.size (e g hg)
theorem On.fx {w0 w w' : World} {N : Nat} {v v' : Value} (h : On w0 w) (f : Fx N v v' w w') (hN : w0.heap.size ≤ N) (hv : ∀ g, v.ownBlock = some g → w0.heap.size ≤ g) : On w0 w' :=
 ⟨f.os.trans h.os, f.tape.trans h.tape, f.output.trans h.output, Nat.le_trans h.size f.size, fun g hg => (f.block g (Nat.lt_of_lt_of_le hg h.size) (by omega) (fun e => by have := hv g e; omega)).trans (h.block g hg)⟩
theorem OwX.low {w : World} {b : Nat} {v : Value} {L : List ExT} (h : OwX w b v L) : ∀ g, v.ownBlock = some g → b ≤ g ∧ g < w.heap.size := by
 obtain ⟨vs, h1, h2, h3⟩ := h
 intro g e
 exact h2.lt g e
end Go.Proofs.YtioiabfheeglgaaGreatDoor
