/- Rows of a made test: what Small and others lay and keep. -/
import Derived.Test.YtioiabfheeglgaaGreatDoorJ17SmallB
namespace Go.Proofs.YtioiabfheeglgaaGreatDoor
open Go.RowKit

theorem infoIns : (Tryz.prog.info? 67).map (fun i => (i.zero, i.size, i.bytes)) = some (some (.agg #[.int .i64 0, .int .i64 0, .int .i64 0, .int .i64 0, .int .i64 0, .int .i64 0, .int .i64 0, .int .i64 0, .int .i64 0]), 9, 72) := by kernel_rfl
theorem infoThr : (Tryz.prog.info? 68).map (fun i => (i.zero, i.size, i.bytes)) = some (some (.slice none 0 0), 1, 24) := by kernel_rfl
theorem infoInit : (Tryz.prog.info? 82).map (fun i => (i.zero, i.size, i.bytes)) = some (some (.agg #[.int .i64 0, .int .i64 0]), 2, 16) := by kernel_rfl
abbrev iniO (w : World) (base : Nat) (v : Value) (L : List InitT) : Prop := w.ownsRow base 82 2 v L.length (L.flatMap iniC)
theorem news_at (w : World) (cs : Array Value) (e : TypeId) : ∀ (j : Nat) (u : Value), cs.toList[j]? = some u → (w.alloc (.cells cs e)).cell? ((⟨w.heap.size, 0, none⟩ : Addr).add j) = some u := by
 intro j u hu
 rw [new_cell]
 exact hu
theorem one_ini (x y : Int) : ∀ u ∈ iniC ⟨x, y⟩, u.oneCell' = true := by
 intro u hu
 simp only [iniC, List.mem_cons, List.not_mem_nil, or_false] at hu
 rcases hu with rfl | rfl <;> rfl
theorem one_max : 0 + 1 ≤ maxLen := by decide
theorem one_bytes : (0 + 1) * 16 ≤ 140737488355328 := by decide
theorem base_alloc {b : Nat} {w : World} (h : b ≤ w.heap.size) (o : Obj) : b ≤ (w.alloc o).heap.size := by simp; omega
theorem own_set {w : World} {base k n N : Nat} {e : TypeId} {v : Value} {xs : List Value} (h : w.ownsRow base e k v n xs) (hN : N < base) (i : Nat) (u : Value) : (w.setCell ⟨N, i, none⟩ u).ownsRow base e k v n xs :=
 ownsRow_setCell_other h (fun hg => by have := (h.lt N hg).1; omega) u
theorem Own2.set {α : Type} {C : α → List Value} {k : Nat} {eo ei : TypeId} {w : World} {base N : Nat} {v : Value} {LL : List (List α)} (h : Own2 C k eo ei w base v LL) (hN : N < base) (i : Nat) (u : Value) : Own2 C k eo ei (w.setCell ⟨N, i, none⟩ u) base v LL := by
 obtain ⟨vs, h1, h2, h3⟩ := h
 exact ⟨vs, h1, own_set h2 hN i u, fun j x L a b => own_set (h3 j x L a b) hN i u⟩
theorem own_puts {base k n N : Nat} {e : TypeId} {v : Value} {xs : List Value} : ∀ (vs : List Value) (w : World) (o : Nat), w.ownsRow base e k v n xs → N < base → (putCells w N o vs).ownsRow base e k v n xs
 | [], _, _, h, _ => h
 | u :: vs, _, o, h, hN => own_puts vs _ _ (own_set h hN o u) hN
theorem Own2.puts {α : Type} {C : α → List Value} {k : Nat} {eo ei : TypeId} {base N : Nat} {v : Value} {LL : List (List α)} : ∀ (vs : List Value) (w : World) (o : Nat), Own2 C k eo ei w base v LL → N < base → Own2 C k eo ei (putCells w N o vs) base v LL
 | [], _, _, h, _ => h
 | u :: vs, _, o, h, hN => Own2.puts vs _ _ (h.set hN o u) hN
theorem one_slice (a : Option Addr) (m c : Nat) : ∀ u ∈ [Value.slice a m c], u.oneCell' = true := by
 intro u hu
 simp only [List.mem_cons, List.not_mem_nil, or_false] at hu
 subst hu
 rfl
theorem none_own {b : Nat} : ∀ g, (Value.slice none 0 0).ownBlock = some g → b ≤ g := fun g h => by cases h
theorem news_two (w : World) (o : Obj) (cs : Array Value) (e : TypeId) : ∀ (j : Nat) (u : Value), cs.toList[j]? = some u → ((w.alloc o).alloc (.cells cs e)).cell? ((⟨w.heap.size + 1, 0, none⟩ : Addr).add j) = some u := by
 intro j u hu
 have := new_cell (w.alloc o) cs e j
 rw [World.size_alloc] at this
 rw [this]
 exact hu
theorem one_ins (x : InsT) : ∀ u ∈ insC x, u.oneCell' = true := by
 intro u hu
 simp only [insC, List.mem_cons, List.not_mem_nil, or_false] at hu
 rcases hu with rfl | rfl | rfl | rfl | rfl | rfl | rfl | rfl | rfl <;> rfl
theorem one_ins2 (x y : InsT) : ∀ u ∈ insC x ++ insC y, u.oneCell' = true := by
 intro u hu
 rcases List.mem_append.1 hu with h | h
 ·
  exact one_ins x u h
 ·
  exact one_ins y u h
abbrev zIns : Value := .agg #[.int .i64 0, .int .i64 0, .int .i64 0, .int .i64 0, .int .i64 0, .int .i64 0, .int .i64 0, .int .i64 0, .int .i64 0]
abbrev anyO (w : World) (base : Nat) (v : Value) (LL : List (List AtomT)) : Prop := Own2 atomC 4 88 87 w base v LL
/-- v is this test, in rows of its own. -/
def TOwn (w : World) (base : Nat) (v : Value) (t : TestT) : Prop :=
 ∃ a1 c1 a2 c2 a3 c3, v = .agg #[.string t.name, .slice a1 t.ini.length c1, .slice a2 t.thr.length c2, .int .i64 t.cond.k, .slice a3 t.cond.any.length c3] ∧ iniO w base (.slice a1 t.ini.length c1) t.ini ∧ thrO w base (.slice a2 t.thr.length c2) t.thr ∧ anyO w base (.slice a3 t.cond.any.length c3) t.cond.any
theorem Own2.mono {α : Type} {C : α → List Value} {k : Nat} {eo ei : TypeId} {w : World} {base base' : Nat} {v : Value} {LL : List (List α)} (h : Own2 C k eo ei w base v LL) (hb : base' ≤ base) : Own2 C k eo ei w base' v LL := by
 obtain ⟨vs, h1, h2, h3⟩ := h
 exact ⟨vs, h1, own_mono h2 hb, fun i u L a b => own_mono (h3 i u L a b) hb⟩
theorem flat_len {α : Type} {C : α → List Value} {k : Nat} (hC : ∀ x, (C x).length = k) : ∀ L : List α, (L.flatMap C).length = L.length * k
 | [] => by simp
 | x :: L => by rw [List.flatMap_cons, List.length_append, hC, flat_len hC L, List.length_cons, Nat.succ_mul, Nat.add_comm]
theorem own_bk {α : Type} {C : α → List Value} {k : Nat} (hC : ∀ x, (C x).length = k) {w : World} {N base : Nat} {e : TypeId} {L : List α} (h : w.heap[N]? = some (.cells (L.flatMap C).toArray e (0, 0))) (hb : base ≤ N) (hm : L.length ≤ maxLen) : w.ownsRow base e k (.slice (some ⟨N, 0, none⟩) L.length L.length) L.length (L.flatMap C) := by
 have hl := flat_len hC L
 refine ⟨hl, Or.inr ⟨N, L.length, _, rfl, hb, h, Nat.le_refl _, hm, by simpa using hl, ?_⟩⟩
 rw [List.take_of_length_le (by simp [hl])]
theorem any_new (W : World) (n base : Nat) (hn : W.heap.size = n) (hb : base ≤ n) (R1 R2 : List AtomT) (h1 : R1.length ≤ maxLen) (h2 : R2.length ≤ maxLen) (eo ei : TypeId) :
  Own2 atomC 4 eo ei (((W.alloc (.cells (R1.flatMap atomC).toArray ei)).alloc (.cells (R2.flatMap atomC).toArray ei)).alloc (.cells #[.slice (some ⟨n, 0, none⟩) R1.length R1.length, .slice (some ⟨n + 1, 0, none⟩) R2.length R2.length] eo)) base (.slice (some ⟨n + 1 + 1, 0, none⟩) 2 2) [R1, R2] := by
 subst hn
 have a1 := own_bk (C := atomC) (k := 4) (fun _ => rfl) (base := base) (L := R1) (heap_alloc_new W (.cells (R1.flatMap atomC).toArray ei)) hb h1
 have a2 := own_bk (C := atomC) (k := 4) (fun _ => rfl) (base := base) (L := R2) (heap_alloc_new (W.alloc (.cells (R1.flatMap atomC).toArray ei)) (.cells (R2.flatMap atomC).toArray ei)) (by rw [World.size_alloc]; omega) h2
 rw [World.size_alloc] at a2
 have a3 := own_bk (C := oneC) (k := 1) (fun _ => rfl) (base := base) (L := [.slice (some ⟨W.heap.size, 0, none⟩) R1.length R1.length, .slice (some ⟨W.heap.size + 1, 0, none⟩) R2.length R2.length]) (heap_alloc_new ((W.alloc (.cells (R1.flatMap atomC).toArray ei)).alloc (.cells (R2.flatMap atomC).toArray ei)) (.cells #[.slice (some ⟨W.heap.size, 0, none⟩) R1.length R1.length, .slice (some ⟨W.heap.size + 1, 0, none⟩) R2.length R2.length] eo)) (by rw [World.size_alloc, World.size_alloc]; omega) (by show 2 ≤ maxLen; decide)
 rw [World.size_alloc, World.size_alloc] at a3
 refine ⟨[.slice (some ⟨W.heap.size, 0, none⟩) R1.length R1.length, .slice (some ⟨W.heap.size + 1, 0, none⟩) R2.length R2.length], rfl, a3, fun i u L hi hL => ?_⟩
 match i, hi, hL with
 | 0, hi, hL =>
  simp only [List.getElem?_cons_zero, Option.some.injEq] at hi hL
  subst hi; subst hL
  exact (a1.alloc _).alloc _
 | 1, hi, hL =>
  simp only [List.getElem?_cons_succ, List.getElem?_cons_zero, Option.some.injEq] at hi hL
  subst hi; subst hL
  exact a2.alloc _
 | i + 2, hi, _ => simp at hi
end Go.Proofs.YtioiabfheeglgaaGreatDoor

namespace Go.Proofs.YtioiabfheeglgaaGreatDoor
open Go.RowKit

theorem putAt_left : ∀ (vs a s : List Value) (o : Nat), o + vs.length ≤ a.length → putAt (a ++ s) o vs = putAt a o vs ++ s
 | [], _, _, _, _ => rfl
 | v :: vs, a, s, o, h => by
  simp only [List.length_cons] at h
  rw [putAt, putAt, List.set_append_left _ _ (by omega)]
  exact putAt_left vs _ _ _ (by simp; omega)
theorem heap_put {w : World} {N : Nat} {cs : List Value} {T : TypeId} (h : w.heap[N]? = some (.cells cs.toArray T (0, 0))) (o : Nat) (v : Value) : (w.setCell ⟨N, o, none⟩ v).heap[N]? = some (.cells (cs.set o v).toArray T (0, 0)) := by
 have hs : (cs.set o v).toArray = cs.toArray.setIfInBounds o v := by simp
 rw [hs]
 simp [World.setCell, Array.getElem?_modify, h]
theorem heap_puts {N : Nat} {T : TypeId} : ∀ (vs : List Value) (w : World) (cs : List Value) (o : Nat), w.heap[N]? = some (.cells cs.toArray T (0, 0)) → (putCells w N o vs).heap[N]? = some (.cells (putAt cs o vs).toArray T (0, 0))
 | [], _, _, _, h => h
 | v :: vs, _, _, o, h => heap_puts vs _ _ _ (heap_put h o v)
theorem len_puts : ∀ (vs cs : List Value) (o : Nat), (putAt cs o vs).length = cs.length
 | [], _, _ => rfl
 | v :: vs, cs, o => (len_puts vs _ _).trans (by simp)
theorem Wa.puts {w x : World} {N : Nat} : ∀ (vs : List Value) (w : World) (o : Nat), Wa N x w → Wa N x (putCells w N o vs)
 | [], _, _, h => h
 | v :: vs, _, o, h => Wa.puts (w := w) vs _ _ (h.setAt o v)
theorem row_put {w : World} {base c g k : Nat} {e : TypeId} {L : List InsT} (h : w.ownsRow base e 9 (.slice (some ⟨g, 0, none⟩) L.length c) L.length (L.flatMap insC)) (hk : k < L.length) (x : InsT) :
  (putCells w g (k * 9) (insC x)).ownsRow base e 9 (.slice (some ⟨g, 0, none⟩) L.length c) L.length ((L.set k x).flatMap insC) := by
 rcases h.2 with ⟨_, h0⟩ | ⟨g', cap, cur, hv, hb, hh, hc, hm, hs, ht⟩
 ·
  omega
 ·
  simp only [Value.slice.injEq, Option.some.injEq, Addr.mk.injEq] at hv
  obtain ⟨⟨rfl, _, _⟩, _, rfl⟩ := hv
  have hl : (L.flatMap insC).length = L.length * 9 := h.1
  have e1 : cur.toList = L.flatMap insC ++ cur.toList.drop (L.length * 9) := by rw [← ht, List.take_append_drop]
  have hh' : w.heap[g]? = some (.cells cur.toList.toArray e (0, 0)) := by simpa using hh
  have hp := heap_puts (insC x) w _ (k * 9) hh'
  have h9 : (insC x).length = 9 := rfl
  have hkk : k * 9 + 9 ≤ L.length * 9 := by omega
  rw [e1, putAt_left _ _ _ _ (by rw [h9, hl]; exact hkk), putAt_flat insC 9 (fun _ => rfl) L k x hk] at hp
  have hl2 : ((L.set k x).flatMap insC).length = L.length * 9 := by
   rw [← putAt_flat insC 9 (fun _ => rfl) L k x hk, len_puts]; exact hl
  refine ⟨hl2, Or.inr ⟨g, c, _, rfl, hb, hp, hc, hm, ?_, ?_⟩⟩
  ·
   have hz : cur.toList.length = c * 9 := by simpa using hs
   rw [e1, List.length_append, hl] at hz
   simp only [List.size_toArray, List.length_append, hl2]
   exact hz
  ·
   simp only []
   rw [List.take_left' hl2]
end Go.Proofs.YtioiabfheeglgaaGreatDoor
