/- The parser's tests and the checker's are one and the same in memory. -/
import Derived.Test.YtmnpcbcnjnklnaaGreatDoorRefTreeW
import Derived.Test.YtmnpcbcnjnklnaaGreatDoorJ48WlAwake5
namespace Go.Proofs.YtmnpcbcnjnklnaaGreatDoor
open Go.RowKit

def cO (o : Opd) : Wl.Opd := ⟨o.r, o.v⟩
def cI (x : InsT) : Wl.InsT := ⟨x.k, x.r, x.l, cO x.a, x.o, cO x.b, x.n⟩
def cA (x : AtomT) : Wl.AtomT := ⟨x.t, x.r, x.l, x.v⟩
def cN (x : InitT) : Wl.InitT := ⟨x.l, x.v⟩
def cT (t : TestT) : Wl.TestT := ⟨t.name, t.ini.map cN, t.thr.map (fun L => L.map cI), ⟨t.cond.k, t.cond.any.map (fun L => L.map cA)⟩⟩
theorem flat_c {α β : Type} (f : α → β) (C : α → List Value) (D : β → List Value) (h : ∀ x, D (f x) = C x) : ∀ L : List α, (L.map f).flatMap D = L.flatMap C
  | [] => rfl
  | x :: L => by rw [List.map_cons, List.flatMap_cons, List.flatMap_cons, h, flat_c f C D h L]
theorem rd_c {α β : Type} (f : α → β) (C : α → List Value) (D : β → List Value) (h : ∀ x, D (f x) = C x) {k : Nat} (hD : ∀ x, (D x).length = k) {w : World} {base : Nat} {e : TypeId} {v : Value} {L : List α} (ho : w.ownsRow base e k v L.length (L.flatMap C)) : Wl.Rd D k w v (L.map f) := by
  refine Wl.Rd.own (base := base) (e := e) hD ?_
  rw [List.length_map, flat_c f C D h]
  exact ho
theorem rd2_c {α β : Type} (f : α → β) (C : α → List Value) (D : β → List Value) (h : ∀ x, D (f x) = C x) {k : Nat} (hD : ∀ x, (D x).length = k) {w : World} {base : Nat} {eo ei : TypeId} {v : Value} {LL : List (List α)} (ho : Own2 C k eo ei w base v LL) : Wl.Rd2 D k w v (LL.map fun L => L.map f) := by
  obtain ⟨vs, h1, h2, h3⟩ := ho
  have : Wl.Own2 D k eo ei w base v (LL.map fun L => L.map f) := by
    refine ⟨vs, by rw [List.length_map]; exact h1, by rw [List.length_map]; exact h2, fun i u L hu hL => ?_⟩
    rw [List.getElem?_map, Option.map_eq_some_iff] at hL
    obtain ⟨L0, hL0, rfl⟩ := hL
    rw [List.length_map, flat_c f C D h]
    exact h3 i u L0 hu hL0
  exact this.rd hD
theorem rd_of_at {w : World} {base : Nat} {v : Value} {t : TestT} (h : TestAt w base v t) (hn : t.name.size ≤ 9223372036854775807) : Wl.TestRd w v (cT t) := by
  obtain ⟨a1, m1, c1, a2, m2, c2, a3, m3, c3, rfl, o1, o2, o3⟩ := h
  have r1 := rd_c cN iniC Wl.iniC (fun _ => rfl) (fun _ => rfl) o1
  have r2 := rd2_c cI insC Wl.insC (fun _ => rfl) (fun _ => rfl) o2
  have r3 := rd2_c cA atomC Wl.atomC (fun _ => rfl) (fun _ => rfl) o3
  obtain ⟨_, _, e1, _, _⟩ := r1.slice
  obtain ⟨_, _, e2, _, _⟩ := r2.slice
  obtain ⟨_, _, e3, _, _⟩ := r3.slice
  simp only [Value.slice.injEq] at e1 e2 e3
  obtain ⟨_, rfl, _⟩ := e1
  obtain ⟨_, rfl, _⟩ := e2
  obtain ⟨_, rfl, _⟩ := e3
  exact ⟨a1, c1, a2, c2, a3, c3, rfl, hn, r1, r2, r3⟩
theorem tok_size (s : ByteArray) (S : St) : (tokX s S).size ≤ s.size := by
  cases S with
  | error e => exact Nat.zero_le _
  | ok a =>
    show (tx s a).size ≤ s.size
    unfold tx
    rw [ByteArray.size_extract]
    omega
/-- What Read answers: the test, or none and the first error. -/
def readR (s : ByteArray) : TestT × Nat × Nat :=
  if (parseP s).2.1 = 0 then (if Wl.checkT (cT (parseP s).1) = 0 then ((parseP s).1, 0, 0) else (noTest, (Wl.checkT (cT (parseP s).1)).toNat, 0)) else (noTest, (parseP s).2.1, (parseP s).2.2)
theorem check_nat (t : Wl.TestT) : ((Wl.checkT t).toNat : Int) = Wl.checkT t := by
  have : 0 ≤ Wl.checkT t := by
    unfold Wl.checkT
    repeat' split
    all_goals omega
  omega
end Go.Proofs.YtmnpcbcnjnklnaaGreatDoor
