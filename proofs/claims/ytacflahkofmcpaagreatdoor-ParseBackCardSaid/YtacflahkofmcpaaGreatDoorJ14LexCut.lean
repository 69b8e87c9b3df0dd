/- Cells that are written one behind the other. -/
import Derived.Test.YtacflahkofmcpaaGreatDoorJ13WlOwnR
import Derived.Laws.ResultCell
import Derived.IntWalk
import Derived.Test.YtacflahkofmcpaaGreatDoorJ00LexMeasure
import Derived.Lib.Strings
namespace Go.Proofs.YtacflahkofmcpaaGreatDoor.Wl
open Go.RowKit

def putAt (l : List Value) (o : Nat) : List Value → List Value
  | [] => l
  | v :: vs => putAt (l.set o v) (o + 1) vs
def putCells (w : World) (N o : Nat) : List Value → World
  | [] => w
  | v :: vs => putCells (w.setCell ⟨N, o, none⟩ v) N (o + 1) vs
theorem putAt_skip (a : List Value) : ∀ (vs l : List Value) (o : Nat), putAt (a ++ l) (a.length + o) vs = a ++ putAt l o vs
  | [], _, _ => rfl
  | v :: vs, l, o => by
    rw [putAt, putAt, List.set_append_right _ _ (Nat.le_add_right _ _), Nat.add_sub_cancel_left, Nat.add_assoc]
    exact putAt_skip a vs _ _
theorem putAt_head : ∀ (b a l : List Value), a.length = b.length → putAt (a ++ l) 0 b = b ++ l
  | [], a, l, h => by
    have : a = [] := List.eq_nil_of_length_eq_zero h
    subst this; rfl
  | v :: b, [], l, h => by simp at h
  | v :: b, x :: a, l, h => by
    have := putAt_skip [v] b (a ++ l) 0
    simp only [List.length_cons, List.length_nil, List.singleton_append] at this
    rw [putAt, List.cons_append, List.set_cons_zero]
    rw [this, putAt_head b a l (by simpa using h)]
    rfl
theorem putAt_flat {α : Type} (C : α → List Value) (k : Nat) (hC : ∀ x, (C x).length = k) : ∀ (L : List α) (j : Nat) (x : α), j < L.length → putAt (L.flatMap C) (j * k) (C x) = (L.set j x).flatMap C
  | [], j, x, h => by simp at h
  | y :: L, 0, x, _ => by
    rw [List.flatMap_cons, Nat.zero_mul, putAt_head _ _ _ (by rw [hC, hC]), List.set_cons_zero, List.flatMap_cons]
  | y :: L, j + 1, x, h => by
    rw [List.flatMap_cons, show (j + 1) * k = (C y).length + j * k by rw [hC, Nat.succ_mul, Nat.add_comm], putAt_skip, putAt_flat C k hC L j x (by simpa using h), List.set_cons_succ, List.flatMap_cons]
theorem Bk.put {w : World} {N : Nat} {cs : List Value} (h : Bk w N cs.toArray) (o : Nat) (v : Value) : Bk (w.setCell ⟨N, o, none⟩ v) N (cs.set o v).toArray := by
  obtain ⟨T, e⟩ := h
  refine ⟨T, ?_⟩
  have hs : (cs.set o v).toArray = cs.toArray.setIfInBounds o v := by simp
  rw [hs]
  simp [World.setCell, Array.getElem?_modify, e]
theorem Bk.puts {N : Nat} : ∀ (vs : List Value) (w : World) (cs : List Value) (o : Nat), Bk w N cs.toArray → Bk (putCells w N o vs) N (putAt cs o vs).toArray
  | [], _, _, _, h => h
  | v :: vs, _, _, o, h => Bk.puts vs _ _ _ (h.put o v)
theorem Bk.far {w : World} {N M : Nat} {cs : Array Value} (h : Bk w M cs) (hne : N ≠ M) (o : Nat) (v : Value) : Bk (w.setCell ⟨N, o, none⟩ v) M cs := by
  obtain ⟨T, e⟩ := h
  exact ⟨T, (Below.heap_setCell _ _ _ _ (fun h => hne h.symm)).trans e⟩
theorem Bk.fars {N M : Nat} (hne : N ≠ M) : ∀ (vs : List Value) (w : World) (cs : Array Value) (o : Nat), Bk w M cs → Bk (putCells w N o vs) M cs
  | [], _, _, _, h => h
  | v :: vs, _, _, o, h => Bk.fars hne vs _ _ _ (h.far hne o v)
theorem size_set (w : World) (a : Addr) (v : Value) : (w.setCell a v).heap.size = w.heap.size := by simp [World.setCell]
theorem size_puts {N : Nat} : ∀ (vs : List Value) (w : World) (o : Nat), (putCells w N o vs).heap.size = w.heap.size
  | [], _, _ => rfl
  | v :: vs, w, _ => (size_puts vs _ _).trans (size_set w _ v)
theorem On.puts {x : World} {N : Nat} (hN : x.heap.size ≤ N) : ∀ (vs : List Value) (w : World) (o : Nat), On x w → On x (putCells w N o vs)
  | [], _, _, h => h
  | v :: vs, _, _, h => On.puts hN vs _ _ (h.setNew hN v)
theorem results_cell {fn : Func} {q : Tmp} {ty : TypeId} (h : fn.results = #[.cell q ty]) (tmps : Array Value) (P : Program) (w : World) :
    (results fn tmps).run P w = ((asAddr (tmps.getD q undef)).run P w).andThen fun a w₁ => (loadVar ty a).run P w₁ := by
  simp only [results, h]
  simp [Sem.run_bind, Result.andThen]
theorem results_cell_slot {fn : Func} {p u : Tmp} {ty : TypeId} (h : fn.results = #[.cell p ty, .tmp u]) (tmps : Array Value) (P : Program) (w : World) :
    (results fn tmps).run P w = ((asAddr (tmps.getD p undef)).run P w).andThen fun a w₁ => ((loadVar ty a).run P w₁).andThen fun v w₂ => .ok (.tuple #[v, tmps.getD u undef]) w₂ := by
  simp only [results, h]
  simp [Sem.run_bind, Result.andThen]
end Go.Proofs.YtacflahkofmcpaaGreatDoor.Wl

namespace Go.Proofs.YtacflahkofmcpaaGreatDoor.Wl
open Go.RowKit

theorem any_here {α : Type} {p : α → Bool} {L : List α} {i : Nat} {x : α} (h : L[i]? = some x) (hp : p x = true) : L.any p = true :=
  List.any_eq_true.2 ⟨x, List.mem_of_getElem? h, hp⟩
theorem drop_at {α : Type} {L : List α} {i : Nat} {x : α} (h : L[i]? = some x) : L.drop i = x :: L.drop (i + 1) := by
  obtain ⟨hi, rfl⟩ := List.getElem?_eq_some_iff.1 h
  exact List.drop_eq_getElem_cons hi
theorem all_not {α : Type} (p : α → Bool) (L : List α) : (!L.any (fun x => !p x)) = L.all p := by
  induction L with
  | nil => rfl
  | cons x L ih => simp only [List.any_cons, List.all_cons, ← ih]; cases p x <;> simp
theorem ret_bool {a b : Bool} (h : a = b) : Ending.returned (.bool a) = .returned (.bool b) := by rw [h]
/-- v is this test, and can be read. -/
structure TestRd (w : World) (v : Value) (t : TestT) : Prop where
  ex : ∃ a1 c1 a2 c2 a3 c3, v = .agg #[.string t.name, .slice a1 t.ini.length c1, .slice a2 t.thr.length c2, .int .i64 t.cond.k, .slice a3 t.cond.any.length c3] ∧ t.name.size ≤ 9223372036854775807 ∧
    Rd iniC 2 w (.slice a1 t.ini.length c1) t.ini ∧ Rd2 insC 9 w (.slice a2 t.thr.length c2) t.thr ∧ Rd2 atomC 4 w (.slice a3 t.cond.any.length c3) t.cond.any
theorem TestRd.on {w w' : World} {v : Value} {t : TestT} (h : TestRd w v t) (k : On w w') : TestRd w' v t := by
  obtain ⟨a1, c1, a2, c2, a3, c3, hv, hn, h1, h2, h3⟩ := h.ex
  exact ⟨a1, c1, a2, c2, a3, c3, hv, hn, h1.on k, h2.on k, h3.on k⟩

def byteV (b : UInt8) : Value := .int .u8 b.toNat
theorem infoByte : (Tryz.prog.info? 5).map (fun i => (i.zero, i.size, i.bytes)) = some (some (.int .u8 0), 1, 1) := by kernel_rfl
def byteC (b : UInt8) : List Value := [.int .u8 b.toNat]
theorem infoI64 : (Tryz.prog.info? 2).map (fun i => (i.zero, i.size, i.bytes)) = some (some (.int .i64 0), 1, 8) := by kernel_rfl
theorem set_split {α : Type} (A B : List α) (z x : α) : (A ++ z :: B).set A.length x = A ++ x :: B := by
  rw [List.set_append_right _ _ (Nat.le_refl _), Nat.sub_self, List.set_cons_zero]
theorem rep_succ {α : Type} (n : Nat) (x : α) : List.replicate (n + 1) x = x :: List.replicate n x := rfl
theorem own_lt {w : World} {base k n c g : Nat} {e : TypeId} {xs : List Value} (h : w.ownsRow base e k (.slice (some ⟨g, 0, none⟩) n c) n xs) : g < w.heap.size := by
  rcases h.2 with ⟨h0, _⟩ | ⟨g', cap, cur, hv, hb, hh, _⟩
  · cases h0
  · have := lt_of_block hh
    simp only [Value.slice.injEq, Option.some.injEq, Addr.mk.injEq] at hv
    omega
theorem puts9 (w : World) (N o : Nat) (v0 v1 v2 v3 v4 v5 v6 v7 v8 : Value) : (((((((((w.setCell ⟨N, o, none⟩ v0).setCell ⟨N, o + 1, none⟩ v1).setCell ⟨N, o + 2, none⟩ v2).setCell ⟨N, o + 3, none⟩ v3).setCell ⟨N, o + 4, none⟩ v4).setCell ⟨N, o + 5, none⟩ v5).setCell ⟨N, o + 6, none⟩ v6).setCell ⟨N, o + 7, none⟩ v7).setCell ⟨N, o + 8, none⟩ v8) = putCells w N o [v0, v1, v2, v3, v4, v5, v6, v7, v8] := rfl
theorem put_lt {w : World} {m : Nat} (h : m < w.heap.size) (N o : Nat) (vs : List Value) (T : Obj) : m < ((putCells w N o vs).alloc T).heap.size := by
  rw [World.size_alloc, size_puts]
  omega
theorem rd_bytes {w : World} {base : Nat} {e : TypeId} {a : Option Addr} {c : Nat} {LT : List UInt8} (h : w.ownsRow base e 1 (.slice a LT.length c) LT.length (LT.map byteV)) : Rd byteC 1 w (.slice a LT.length c) LT := by
  refine Rd.own (C := byteC) (k := 1) (fun _ => rfl) (base := base) (e := e) ?_
  have e1 : LT.flatMap byteC = LT.map byteV := by
    clear h
    induction LT with
    | nil => rfl
    | cons b LT ih => rw [List.flatMap_cons, ih]; rfl
  rw [e1]
  exact h
theorem ne_thr : (48 : TypeId) ≠ 52 := by decide
end Go.Proofs.YtacflahkofmcpaaGreatDoor.Wl

namespace Go.Proofs.YtacflahkofmcpaaGreatDoor
open Go.RowKit

def cO (o : Opd) : Wl.Opd := ⟨o.r, o.v⟩
def cI (x : InsT) : Wl.InsT := ⟨x.k, x.r, x.l, cO x.a, x.o, cO x.b, x.n⟩
def cA (x : AtomT) : Wl.AtomT := ⟨x.t, x.r, x.l, x.v⟩
def cN (x : InitT) : Wl.InitT := ⟨x.l, x.v⟩
def cT (t : TestT) : Wl.TestT := ⟨t.name, t.ini.map cN, t.thr.map (fun L => L.map cI), ⟨t.cond.k, t.cond.any.map (fun L => L.map cA)⟩⟩
theorem flat_c {α β : Type} (f : α → β) (C : α → List Value) (D : β → List Value) (h : ∀ x, D (f x) = C x) : ∀ L : List α, (L.map f).flatMap D = L.flatMap C
  | [] => rfl
  | x :: L => by rw [List.map_cons, List.flatMap_cons, List.flatMap_cons, h, flat_c f C D h L]
theorem rd_c {α β : Type} (f : α → β) (C : α → List Value) (D : β → List Value) (h : ∀ x, D (f x) = C x) {k : Nat} (hD : ∀ x, (D x).length = k) {w : World} {base : Nat} {e : TypeId} {v : Value} {L : List α} (ho : w.ownsRow base e k v L.length (L.flatMap C)) : Wl.Rd D k w v (L.map f) := by
  refine Wl.Rd.own (base := base) (e := e) hD ?_
  rw [List.length_map, flat_c f C D h]
  exact ho
theorem rd2_c {α β : Type} (f : α → β) (C : α → List Value) (D : β → List Value) (h : ∀ x, D (f x) = C x) {k : Nat} (hD : ∀ x, (D x).length = k) {w : World} {base : Nat} {eo ei : TypeId} {v : Value} {LL : List (List α)} (ho : Own2 C k eo ei w base v LL) : Wl.Rd2 D k w v (LL.map fun L => L.map f) := by
  obtain ⟨vs, h1, h2, h3⟩ := ho
  have : Wl.Own2 D k eo ei w base v (LL.map fun L => L.map f) := by
    refine ⟨vs, by rw [List.length_map]; exact h1, by rw [List.length_map]; exact h2, fun i u L hu hL => ?_⟩
    rw [List.getElem?_map, Option.map_eq_some_iff] at hL
    obtain ⟨L0, hL0, rfl⟩ := hL
    rw [List.length_map, flat_c f C D h]
    exact h3 i u L0 hu hL0
  exact this.rd hD
theorem rd_of_at {w : World} {base : Nat} {v : Value} {t : TestT} (h : TestAt w base v t) (hn : t.name.size ≤ 9223372036854775807) : Wl.TestRd w v (cT t) := by
  obtain ⟨a1, m1, c1, a2, m2, c2, a3, m3, c3, rfl, o1, o2, o3⟩ := h
  have r1 := rd_c cN iniC Wl.iniC (fun _ => rfl) (fun _ => rfl) o1
  have r2 := rd2_c cI insC Wl.insC (fun _ => rfl) (fun _ => rfl) o2
  have r3 := rd2_c cA atomC Wl.atomC (fun _ => rfl) (fun _ => rfl) o3
  obtain ⟨_, _, e1, _, _⟩ := r1.slice
  obtain ⟨_, _, e2, _, _⟩ := r2.slice
  obtain ⟨_, _, e3, _, _⟩ := r3.slice
  simp only [Value.slice.injEq] at e1 e2 e3
  obtain ⟨_, rfl, _⟩ := e1
  obtain ⟨_, rfl, _⟩ := e2
  obtain ⟨_, rfl, _⟩ := e3
  exact ⟨a1, c1, a2, c2, a3, c3, rfl, hn, r1, r2, r3⟩
theorem tok_size (s : ByteArray) (S : St) : (tokX s S).size ≤ s.size := by
  cases S with
  | error e => exact Nat.zero_le _
  | ok a =>
    show (tx s a).size ≤ s.size
    unfold tx
    rw [ByteArray.size_extract]
    omega
/-- What Read answers: the test, or none and the first error. -/
def readR (s : ByteArray) : TestT × Nat × Nat :=
  if (parseP s).2.1 = 0 then (if Wl.checkT (cT (parseP s).1) = 0 then ((parseP s).1, 0, 0) else (noTest, (Wl.checkT (cT (parseP s).1)).toNat, 0)) else (noTest, (parseP s).2.1, (parseP s).2.2)
theorem check_nat (t : Wl.TestT) : ((Wl.checkT t).toNat : Int) = Wl.checkT t := by
  have : 0 ≤ Wl.checkT t := by
    unfold Wl.checkT
    repeat' split
    all_goals omega
  omega
end Go.Proofs.YtacflahkofmcpaaGreatDoor

namespace Go.Proofs.YtacflahkofmcpaaGreatDoor

theorem list_append (a b : ByteArray) : (a ++ b).data.toList = a.data.toList ++ b.data.toList := by
  obtain ⟨⟨x⟩⟩ := a
  obtain ⟨⟨y⟩⟩ := b
  rfl
theorem size_list (a : ByteArray) : a.size = a.data.toList.length := by
  obtain ⟨⟨x⟩⟩ := a
  rfl
theorem bytes_ext {a b : ByteArray} (h : a.data.toList = b.data.toList) : a = b := by
  obtain ⟨⟨x⟩⟩ := a
  obtain ⟨⟨y⟩⟩ := b
  simp only at h
  rw [h]
end Go.Proofs.YtacflahkofmcpaaGreatDoor

namespace Go.Proofs.YtacflahkofmcpaaGreatDoor

theorem suf_add (s : ByteArray) (a n : Nat) : suf s (a + n) = (suf s a).drop n := by unfold suf; rw [List.drop_drop]
theorem cut_list (s : ByteArray) (a n : Nat) : (s.extract a (a + n)).data.toList = (suf s a).take n := by
  rw [Lib.extract_data]
  unfold suf
  rw [Nat.add_sub_cancel_left]
theorem tx_list (s : ByteArray) (a : Nat) : (tx s a).data.toList = (suf s (pl s a)).take (sz s a) := cut_list s _ _
theorem tx_size {s : ByteArray} {a : Nat} (h : a ≤ s.size) : (tx s a).size = sz s a := by
  rw [size_list, tx_list, List.length_take, suf_length]
  have h1 := to_le h
  unfold to at h1
  omega

theorem runL_cut (b : UInt8) (m : List UInt8) (hb : wordN b.toNat = false) : ∀ r : List UInt8, runL (r.take (runL r) ++ b :: m) = runL r
  | [] => by simp [runL, hb]
  | c :: r => by
    by_cases hc : wordN c.toNat = true
    · have e : runL (c :: r) = runL r + 1 := by simp only [runL, hc, if_true]; omega
      rw [e, List.take_succ_cons, List.cons_append]
      simp only [runL, hc, if_true]
      rw [runL_cut b m hb r]
      omega
    · have e : runL (c :: r) = 0 := by simp only [runL, hc]; simp
      rw [e]
      simp [runL, hb]

theorem hd_cut (r m : List UInt8) (b : UInt8) (h : digN (hd r) = true) : hd (r.take (runL r) ++ b :: m) = hd r := by
  cases r with
  | nil => simp [hd, digN] at h
  | cons c r =>
    have hc : wordN c.toNat = true := by unfold wordN; rw [hd_cons] at h; rw [h]; simp
    have e : runL (c :: r) = runL r + 1 := by simp only [runL, hc, if_true]; omega
    rw [e]
    rfl

theorem bl_facts {n : Nat} (h : blN n = true) : wordN n = false ∧ digN n = false ∧ ∀ c, pairN c n = false := by
  simp only [blN, Bool.or_eq_true, beq_iff_eq] at h
  rcases h with (rfl | rfl) | rfl <;> refine ⟨by decide, by decide, fun c => by simp [pairN]⟩

theorem kind_cons (c : UInt8) (r : List UInt8) : kind (c :: r) = if letN c.toNat then 1 else if digN c.toNat then 2 else if c.toNat == 45 && digN (hd r) then 2
    else if pairN c.toNat (hd r) then 3 else if oneN c.toNat then 3 else 0 := rfl
theorem tsize_cons (c : UInt8) (r : List UInt8) : tsize (c :: r) = if letN c.toNat then 1 + runL r else if digN c.toNat then 1 + runL r else if c.toNat == 45 && digN (hd r) then 1 + runL r
    else if pairN c.toNat (hd r) then 2 else if oneN c.toNat then 1 else 0 := rfl

/-- A token's text with a blank behind it is that token. -/
theorem keep (l m : List UInt8) (b : UInt8) (hb : blN b.toNat = true) (h0 : kind l ≠ 0) (h4 : kind l ≠ 4) :
    kind (l.take (tsize l) ++ b :: m) = kind l ∧ tsize (l.take (tsize l) ++ b :: m) = tsize l := by
  obtain ⟨b1, b2, b3⟩ := bl_facts hb
  cases l with
  | nil => simp [kind] at h4
  | cons c r =>
    have hrun := runL_cut b m b1 r
    by_cases c1 : letN c.toNat = true
    · have e : tsize (c :: r) = runL r + 1 := by simp only [tsize_cons, c1, if_true]; omega
      rw [e, List.take_succ_cons, List.cons_append]
      simp only [kind_cons, tsize_cons, c1, if_true, hrun]
      exact ⟨trivial, by omega⟩
    · by_cases c2 : digN c.toNat = true
      · have e : tsize (c :: r) = runL r + 1 := by simp only [tsize_cons, c1, c2, if_true]; simp; omega
        rw [e, List.take_succ_cons, List.cons_append]
        simp only [kind_cons, tsize_cons, c1, c2, if_true, hrun]
        simp
        omega
      · by_cases c3 : (c.toNat == 45 && digN (hd r)) = true
        · have e : tsize (c :: r) = runL r + 1 := by rw [tsize_cons, if_neg c1, if_neg c2, if_pos c3]; omega
          have hh := hd_cut r m b (by simp at c3; exact c3.2)
          rw [e, List.take_succ_cons, List.cons_append]
          simp only [kind_cons, tsize_cons, hh, c1, c2, c3, if_true, hrun]
          simp
          omega
        · by_cases c4 : pairN c.toNat (hd r) = true
          · have e : tsize (c :: r) = 2 := by rw [tsize_cons, if_neg c1, if_neg c2, if_neg c3, if_pos c4]
            cases r with
            | nil => simp [hd, pairN] at c4
            | cons d r =>
              rw [e]
              show kind (c :: d :: (b :: m)) = _ ∧ tsize (c :: d :: (b :: m)) = _
              simp only [kind_cons, tsize_cons, hd_cons]
              rw [hd_cons] at c3 c4
              simp only [c1, c2, c3, c4, if_true]
              simp
          · by_cases c5 : oneN c.toNat = true
            · have e : tsize (c :: r) = 1 := by rw [tsize_cons, if_neg c1, if_neg c2, if_neg c3, if_neg c4, if_pos c5]
              rw [e]
              show kind (c :: (b :: m)) = _ ∧ tsize (c :: (b :: m)) = _
              have d3 : ¬ (c.toNat == 45 && digN b.toNat) = true := by rw [b2]; simp
              have d4 : ¬ pairN c.toNat b.toNat = true := by rw [b3]; simp
              simp only [kind_cons, tsize_cons, hd_cons, c1, c2, c3, c4, c5, d3, d4, if_true]
              simp
            · exfalso
              apply h0
              rw [kind_cons, if_neg c1, if_neg c2, if_neg c3, if_neg c4, if_neg c5]

/-- Where a token begins there is no gap. -/
theorem gap_tok {l : List UInt8} (h0 : kind l ≠ 0) : gap false l = 0 := by
  cases l with
  | nil => rfl
  | cons c r =>
    rw [gap_f]
    by_cases c1 : c.toNat = 35
    · exfalso; apply h0; rw [kind_cons, c1]; simp [letN, digN, pairN, oneN]
    · rw [if_neg c1]
      by_cases c2 : blN c.toNat = true
      · exfalso; apply h0
        simp only [blN, Bool.or_eq_true, beq_iff_eq] at c2
        rw [kind_cons]
        rcases c2 with (e | e) | e <;> rw [e] <;> simp [letN, digN, pairN, oneN]
      · rw [if_neg c2]

/-- What may stand between tokens. -/
def Sep (l : List UInt8) : Prop := l = [32] ∨ l = [9] ∨ l = [10] ∨ l = [32, 35, 32, 110, 10]
theorem gap_sep {p : List UInt8} (h : Sep p) (y : List UInt8) : gap false (p ++ y) = p.length + gap false y := by
  rcases h with rfl | rfl | rfl | rfl
  · simp [gap, blN]
  · simp [gap, blN]
  · simp [gap, blN]
  · simp [gap, blN]
    omega
theorem Sep.head {p : List UInt8} (h : Sep p) : ∃ b m, p = b :: m ∧ blN b.toNat = true := by
  rcases h with rfl | rfl | rfl | rfl <;> exact ⟨_, _, rfl, by decide⟩

def joined : List Tk → List (List UInt8) → List UInt8
  | t :: ts, p :: ps => t.x.data.toList ++ p ++ joined ts ps
  | _, _ => []

theorem gap_pre {q : List UInt8} (h : q = [] ∨ Sep q) (y : List UInt8) : gap false (q ++ y) = q.length + gap false y := by
  rcases h with rfl | h
  · simp
  · exact gap_sep h y

theorem joined_cons (t : Tk) (ts : List Tk) (p : List UInt8) (ps : List (List UInt8)) : joined (t :: ts) (p :: ps) = t.x.data.toList ++ p ++ joined ts ps := rfl

theorem joins_end (good : ByteArray → Bool) (s t : ByteArray) {a : Nat} (ha : a ≤ s.size) (he : eC good s a = 0) (h4 : kd s a = 4) {ts : List Tk} (hal : al good s a = (ts, 0, 0)) {ps : List (List UInt8)} (hlen : ps.length = ts.length) (hps : ∀ p ∈ ps, Sep p)
    {q : List UInt8} (hq : q = [] ∨ Sep q) {a' : Nat} (ha' : a' ≤ t.size) (hsuf : suf t a' = q ++ joined ts ps) : ∃ us, al good t a' = (us, 0, 0) ∧ us.map (fun u => (u.k, u.x)) = ts.map (fun u => (u.k, u.x)) := by
  rw [al_end ha he h4] at hal
  obtain rfl : [tk s a] = ts := congrArg Prod.fst hal
  match ps, hlen with
  | [p], _ =>
    have hp := hps p (by simp)
    have hnil : suf s (pl s a) = [] := kind_end.1 h4
    have hx : (tk s a).x.data.toList = [] := by rw [show (tk s a).x = tx s a from rfl, tx_list, hnil]; exact List.take_nil
    have hj : joined [tk s a] [p] = p ++ [] := by rw [joined_cons, hx]; rfl
    rw [hj] at hsuf
    have hgap : gap false (suf t a') = q.length + p.length := by rw [hsuf, gap_pre hq, gap_sep hp]; simp [gap]
    have hs1 : suf t (pl t a') = [] := by
      unfold pl
      rw [hgap, suf_add, hsuf]
      simp
    have hk : kd t a' = 4 := by unfold kd; rw [hs1]; rfl
    have hec : eC good t a' = 0 := by unfold eC; rw [hk]; simp
    refine ⟨[tk t a'], al_end ha' hec hk, ?_⟩
    have htx : tx t a' = tx s a := by
      apply bytes_ext
      rw [tx_list, tx_list, hs1, hnil, List.take_nil, List.take_nil]
    simp only [List.map_cons, List.map_nil, tk, hk, h4, htx]

theorem joins (good : ByteArray → Bool) (s t : ByteArray) : ∀ (n a : Nat), s.size - a ≤ n → a ≤ s.size → ∀ ts, al good s a = (ts, 0, 0) → ∀ ps : List (List UInt8), ps.length = ts.length → (∀ p ∈ ps, Sep p) →
    ∀ q : List UInt8, (q = [] ∨ Sep q) → ∀ a', a' ≤ t.size → suf t a' = q ++ joined ts ps → ∃ us, al good t a' = (us, 0, 0) ∧ us.map (fun u => (u.k, u.x)) = ts.map (fun u => (u.k, u.x)) := by
  intro n
  induction n with
  | zero =>
    intro a hn ha ts hal ps hlen hps q hq a' ha' hsuf
    have he : eC good s a = 0 := by
      rcases Nat.eq_zero_or_pos (eC good s a) with h | h
      · exact h
      · rw [al_err ha (by omega)] at hal; simp at hal; omega
    by_cases h4 : kd s a = 4
    · exact joins_end good s t ha he h4 hal hlen hps hq ha' hsuf
    · have h1 := to_gt (eC_kd he) h4
      have h2 := to_le ha
      omega
  | succ n ih =>
    intro a hn ha ts hal ps hlen hps q hq a' ha' hsuf
    have he : eC good s a = 0 := by
      rcases Nat.eq_zero_or_pos (eC good s a) with h | h
      · exact h
      · rw [al_err ha (by omega)] at hal; simp at hal; omega
    by_cases h4 : kd s a = 4
    · exact joins_end good s t ha he h4 hal hlen hps hq ha' hsuf
    · have h1 := to_gt (eC_kd he) h4
      have h2 := to_le ha
      have hst := al_step ha he h4
      rw [hst] at hal
      obtain ⟨ts', hts⟩ : ∃ ts', (al good s (to s a)).1 = ts' := ⟨_, rfl⟩
      have hal' : al good s (to s a) = (ts', 0, 0) := by
        rw [← hts]
        exact Prod.ext rfl (show (al good s (to s a)).2 = (0, 0) from congrArg Prod.snd hal)
      have ets : ts = tk s a :: ts' := by rw [← hts]; exact (congrArg Prod.fst hal).symm
      subst ets
      cases ps with
      | nil => simp at hlen
      | cons p ps =>
        obtain ⟨b, m, hp, hb⟩ := (hps p (by simp)).head
        have hx : (tk s a).x.data.toList = (suf s (pl s a)).take (tsize (suf s (pl s a))) := tx_list s a
        have k0 : kind (suf s (pl s a)) ≠ 0 := eC_kd he
        obtain ⟨e1, e2⟩ := keep (suf s (pl s a)) (m ++ joined ts' ps) b hb k0 h4
        have hj : joined (tk s a :: ts') (p :: ps) = (suf s (pl s a)).take (tsize (suf s (pl s a))) ++ b :: (m ++ joined ts' ps) := by
          rw [joined_cons, hx, hp]; simp
        rw [hj] at hsuf
        have hgap : gap false (suf t a') = q.length := by
          rw [hsuf, gap_pre hq, gap_tok (by rw [e1]; exact k0)]; rfl
        have hpl : pl t a' = a' + q.length := by unfold pl; rw [hgap]
        have hs1 : suf t (pl t a') = (suf s (pl s a)).take (tsize (suf s (pl s a))) ++ b :: (m ++ joined ts' ps) := by
          rw [hpl, suf_add, hsuf, List.drop_left]
        have hk : kd t a' = kd s a := by unfold kd; rw [hs1, e1]
        have hz : sz t a' = sz s a := by unfold sz; rw [hs1, e2]
        have hl : ((suf s (pl s a)).take (tsize (suf s (pl s a)))).length = sz s a := by
          rw [List.length_take]; have := tsize_le (suf s (pl s a)); unfold sz; omega
        have htx : tx t a' = tx s a := by
          apply bytes_ext
          rw [tx_list, tx_list, hz, hs1, ← hl, List.take_left, hl]
          rfl
        have hec : eC good t a' = 0 := by unfold eC; rw [hk, htx]; exact he
        have hto : suf t (to t a') = p ++ joined ts' ps := by
          unfold to
          rw [suf_add, hs1, hz, ← hl, List.drop_left, hp]
          rfl
        obtain ⟨us, hu1, hu2⟩ := ih (to s a) (by omega) h2 ts' hal' ps (by simpa using hlen) (fun p' hp' => hps p' (by simp [hp'])) p (Or.inr (hps p (by simp))) (to t a') (to_le ha') hto
        refine ⟨tk t a' :: us, ?_, ?_⟩
        · rw [al_step ha' hec (by rw [hk]; exact h4), hu1]
        · simp only [List.map_cons, hu2]
          simp only [tk, hk, htx]
end Go.Proofs.YtacflahkofmcpaaGreatDoor
