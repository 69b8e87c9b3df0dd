/- Cells that are written one behind the other. -/
import Derived.Test.YtplihlmejnohnaaGreatDoorJ02OwnR
import Derived.Laws.ResultCell
namespace Go.Proofs.YtplihlmejnohnaaGreatDoor
open Go.RowKit

def putAt (l : List Value) (o : Nat) : List Value → List Value
  | [] => l
  | v :: vs => putAt (l.set o v) (o + 1) vs
def putCells (w : World) (N o : Nat) : List Value → World
  | [] => w
  | v :: vs => putCells (w.setCell ⟨N, o, none⟩ v) N (o + 1) vs
theorem putAt_skip (a : List Value) : ∀ (vs l : List Value) (o : Nat), putAt (a ++ l) (a.length + o) vs = a ++ putAt l o vs
  | [], _, _ => rfl
  | v :: vs, l, o => by
    rw [putAt, putAt, List.set_append_right _ _ (Nat.le_add_right _ _), Nat.add_sub_cancel_left, Nat.add_assoc]
    exact putAt_skip a vs _ _
theorem putAt_head : ∀ (b a l : List Value), a.length = b.length → putAt (a ++ l) 0 b = b ++ l
  | [], a, l, h => by
    have : a = [] := List.eq_nil_of_length_eq_zero h
    subst this; rfl
  | v :: b, [], l, h => by simp at h
  | v :: b, x :: a, l, h => by
    have := putAt_skip [v] b (a ++ l) 0
    simp only [List.length_cons, List.length_nil, List.singleton_append] at this
    rw [putAt, List.cons_append, List.set_cons_zero]
    rw [this, putAt_head b a l (by simpa using h)]
    rfl
theorem putAt_flat {α : Type} (C : α → List Value) (k : Nat) (hC : ∀ x, (C x).length = k) : ∀ (L : List α) (j : Nat) (x : α), j < L.length → putAt (L.flatMap C) (j * k) (C x) = (L.set j x).flatMap C
  | [], j, x, h => by simp at h
  | y :: L, 0, x, _ => by
    rw [List.flatMap_cons, Nat.zero_mul, putAt_head _ _ _ (by rw [hC, hC]), List.set_cons_zero, List.flatMap_cons]
  | y :: L, j + 1, x, h => by
    rw [List.flatMap_cons, show (j + 1) * k = (C y).length + j * k by rw [hC, Nat.succ_mul, Nat.add_comm], putAt_skip, putAt_flat C k hC L j x (by simpa using h), List.set_cons_succ, List.flatMap_cons]
theorem Bk.put {w : World} {N : Nat} {cs : List Value} (h : Bk w N cs.toArray) (o : Nat) (v : Value) : Bk (w.setCell ⟨N, o, none⟩ v) N (cs.set o v).toArray := by
  obtain ⟨T, e⟩ := h
  refine ⟨T, ?_⟩
  have hs : (cs.set o v).toArray = cs.toArray.setIfInBounds o v := by simp
  rw [hs]
  simp [World.setCell, Array.getElem?_modify, e]
theorem Bk.puts {N : Nat} : ∀ (vs : List Value) (w : World) (cs : List Value) (o : Nat), Bk w N cs.toArray → Bk (putCells w N o vs) N (putAt cs o vs).toArray
  | [], _, _, _, h => h
  | v :: vs, _, _, o, h => Bk.puts vs _ _ _ (h.put o v)
theorem Bk.far {w : World} {N M : Nat} {cs : Array Value} (h : Bk w M cs) (hne : N ≠ M) (o : Nat) (v : Value) : Bk (w.setCell ⟨N, o, none⟩ v) M cs := by
  obtain ⟨T, e⟩ := h
  exact ⟨T, (Below.heap_setCell _ _ _ _ (fun h => hne h.symm)).trans e⟩
theorem Bk.fars {N M : Nat} (hne : N ≠ M) : ∀ (vs : List Value) (w : World) (cs : Array Value) (o : Nat), Bk w M cs → Bk (putCells w N o vs) M cs
  | [], _, _, _, h => h
  | v :: vs, _, _, o, h => Bk.fars hne vs _ _ _ (h.far hne o v)
theorem size_set (w : World) (a : Addr) (v : Value) : (w.setCell a v).heap.size = w.heap.size := by simp [World.setCell]
theorem size_puts {N : Nat} : ∀ (vs : List Value) (w : World) (o : Nat), (putCells w N o vs).heap.size = w.heap.size
  | [], _, _ => rfl
  | v :: vs, w, _ => (size_puts vs _ _).trans (size_set w _ v)
theorem On.puts {x : World} {N : Nat} (hN : x.heap.size ≤ N) : ∀ (vs : List Value) (w : World) (o : Nat), On x w → On x (putCells w N o vs)
  | [], _, _, h => h
  | v :: vs, _, _, h => On.puts hN vs _ _ (h.setNew hN v)
theorem results_cell {fn : Func} {q : Tmp} {ty : TypeId} (h : fn.results = #[.cell q ty]) (tmps : Array Value) (P : Program) (w : World) :
    (results fn tmps).run P w = ((asAddr (tmps.getD q undef)).run P w).andThen fun a w₁ => (loadVar ty a).run P w₁ := by
  simp only [results, h]
  simp [Sem.run_bind, Result.andThen]
theorem results_cell_slot {fn : Func} {p u : Tmp} {ty : TypeId} (h : fn.results = #[.cell p ty, .tmp u]) (tmps : Array Value) (P : Program) (w : World) :
    (results fn tmps).run P w = ((asAddr (tmps.getD p undef)).run P w).andThen fun a w₁ => ((loadVar ty a).run P w₁).andThen fun v w₂ => .ok (.tuple #[v, tmps.getD u undef]) w₂ := by
  simp only [results, h]
  simp [Sem.run_bind, Result.andThen]
end Go.Proofs.YtplihlmejnohnaaGreatDoor

namespace Go.Proofs.YtplihlmejnohnaaGreatDoor
open Go.RowKit

theorem any_here {α : Type} {p : α → Bool} {L : List α} {i : Nat} {x : α} (h : L[i]? = some x) (hp : p x = true) : L.any p = true :=
  List.any_eq_true.2 ⟨x, List.mem_of_getElem? h, hp⟩
theorem drop_at {α : Type} {L : List α} {i : Nat} {x : α} (h : L[i]? = some x) : L.drop i = x :: L.drop (i + 1) := by
  obtain ⟨hi, rfl⟩ := List.getElem?_eq_some_iff.1 h
  exact List.drop_eq_getElem_cons hi
theorem all_not {α : Type} (p : α → Bool) (L : List α) : (!L.any (fun x => !p x)) = L.all p := by
  induction L with
  | nil => rfl
  | cons x L ih => simp only [List.any_cons, List.all_cons, ← ih]; cases p x <;> simp
theorem ret_bool {a b : Bool} (h : a = b) : Ending.returned (.bool a) = .returned (.bool b) := by rw [h]
/-- v is this test, and can be read. -/
structure TestRd (w : World) (v : Value) (t : TestT) : Prop where
  ex : ∃ a1 c1 a2 c2 a3 c3, v = .agg #[.string t.name, .slice a1 t.ini.length c1, .slice a2 t.thr.length c2, .int .i64 t.cond.k, .slice a3 t.cond.any.length c3] ∧ t.name.size ≤ 9223372036854775807 ∧
    Rd iniC 2 w (.slice a1 t.ini.length c1) t.ini ∧ Rd2 insC 9 w (.slice a2 t.thr.length c2) t.thr ∧ Rd2 atomC 4 w (.slice a3 t.cond.any.length c3) t.cond.any
theorem TestRd.on {w w' : World} {v : Value} {t : TestT} (h : TestRd w v t) (k : On w w') : TestRd w' v t := by
  obtain ⟨a1, c1, a2, c2, a3, c3, hv, hn, h1, h2, h3⟩ := h.ex
  exact ⟨a1, c1, a2, c2, a3, c3, hv, hn, h1.on k, h2.on k, h3.on k⟩

def byteV (b : UInt8) : Value := .int .u8 b.toNat
theorem infoByte : (Tryz.prog.info? 5).map (fun i => (i.zero, i.size, i.bytes)) = some (some (.int .u8 0), 1, 1) := by kernel_rfl
def byteC (b : UInt8) : List Value := [.int .u8 b.toNat]
theorem infoI64 : (Tryz.prog.info? 2).map (fun i => (i.zero, i.size, i.bytes)) = some (some (.int .i64 0), 1, 8) := by kernel_rfl
theorem set_split {α : Type} (A B : List α) (z x : α) : (A ++ z :: B).set A.length x = A ++ x :: B := by
  rw [List.set_append_right _ _ (Nat.le_refl _), Nat.sub_self, List.set_cons_zero]
theorem rep_succ {α : Type} (n : Nat) (x : α) : List.replicate (n + 1) x = x :: List.replicate n x := rfl
theorem own_lt {w : World} {base k n c g : Nat} {e : TypeId} {xs : List Value} (h : w.ownsRow base e k (.slice (some ⟨g, 0, none⟩) n c) n xs) : g < w.heap.size := by
  rcases h.2 with ⟨h0, _⟩ | ⟨g', cap, cur, hv, hb, hh, _⟩
  · cases h0
  · have := lt_of_block hh
    simp only [Value.slice.injEq, Option.some.injEq, Addr.mk.injEq] at hv
    omega
theorem puts9 (w : World) (N o : Nat) (v0 v1 v2 v3 v4 v5 v6 v7 v8 : Value) : (((((((((w.setCell ⟨N, o, none⟩ v0).setCell ⟨N, o + 1, none⟩ v1).setCell ⟨N, o + 2, none⟩ v2).setCell ⟨N, o + 3, none⟩ v3).setCell ⟨N, o + 4, none⟩ v4).setCell ⟨N, o + 5, none⟩ v5).setCell ⟨N, o + 6, none⟩ v6).setCell ⟨N, o + 7, none⟩ v7).setCell ⟨N, o + 8, none⟩ v8) = putCells w N o [v0, v1, v2, v3, v4, v5, v6, v7, v8] := rfl
theorem put_lt {w : World} {m : Nat} (h : m < w.heap.size) (N o : Nat) (vs : List Value) (T : Obj) : m < ((putCells w N o vs).alloc T).heap.size := by
  rw [World.size_alloc, size_puts]
  omega
theorem rd_bytes {w : World} {base : Nat} {e : TypeId} {a : Option Addr} {c : Nat} {LT : List UInt8} (h : w.ownsRow base e 1 (.slice a LT.length c) LT.length (LT.map byteV)) : Rd byteC 1 w (.slice a LT.length c) LT := by
  refine Rd.own (C := byteC) (k := 1) (fun _ => rfl) (base := base) (e := e) ?_
  have e1 : LT.flatMap byteC = LT.map byteV := by
    clear h
    induction LT with
    | nil => rfl
    | cons b LT ih => rw [List.flatMap_cons, ih]; rfl
  rw [e1]
  exact h
theorem ne_thr : (117 : TypeId) ≠ 107 := by decide
end Go.Proofs.YtplihlmejnohnaaGreatDoor
