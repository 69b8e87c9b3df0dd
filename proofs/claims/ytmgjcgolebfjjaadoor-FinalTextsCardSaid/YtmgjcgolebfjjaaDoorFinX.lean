/- Ends as texts, in plain Lean. Of no memory. -/
import Derived.Test.YtmgjcgolebfjjaaDoorFinP
import Derived.Test.YtmgjcgolebfjjaaDoorCanon
namespace Go.Proofs.YtmgjcgolebfjjaaDoor

/-- A text, and behind it, parted by a blank, a name and its number. -/
def partT (s name : List UInt8) (n : Int) : List UInt8 := (if s.length = 0 then s else s ++ [32]) ++ name ++ [61] ++ Lib.itoa n
def nameT (t r : Nat) : List UInt8 := Lib.itoa (t : Int) ++ [58, 114] ++ Lib.itoa (r : Int)
/-- The names of T threads' registers and of some locations, each with its number's place. -/
def partsT (T : Nat) (L : List UInt8) : List (List UInt8 × Nat) := (List.range (T * 4)).map (fun k => (nameT (k / 4) (k % 4), k)) ++ L.zipIdx.map (fun x => ([x.1], 16 + x.2))
def foldT (f : FinT) (ps : List (List UInt8 × Nat)) : List UInt8 := ps.foldl (fun s p => partT s p.1 (f.l.getD p.2 0)) []
def finTx (T : Nat) (L : List UInt8) (f : FinT) : List UInt8 := foldT f (partsT T L)
theorem foldT_snoc (f : FinT) (ps : List (List UInt8 × Nat)) (p : List UInt8 × Nat) : foldT f (ps ++ [p]) = partT (foldT f ps) p.1 (f.l.getD p.2 0) := by
  unfold foldT
  rw [List.foldl_append]
  rfl
theorem foldT_take (f : FinT) (ps : List (List UInt8 × Nat)) {k : Nat} {p : List UInt8 × Nat} (h : ps[k]? = some p) : foldT f (ps.take (k + 1)) = partT (foldT f (ps.take k)) p.1 (f.l.getD p.2 0) := by
  rw [List.take_add_one, h]
  exact foldT_snoc f _ p
theorem partsT_len (T : Nat) (L : List UInt8) : (partsT T L).length = T * 4 + L.length := by simp [partsT]
theorem partsT_reg (T : Nat) (L : List UInt8) {t r : Nat} (ht : t < T) (hr : r < 4) : (partsT T L)[t * 4 + r]? = some (nameT t r, t * 4 + r) := by
  unfold partsT
  rw [List.getElem?_append_left (by simp; omega), List.getElem?_map, List.getElem?_range (by omega)]
  simp only [Option.map_some, Option.some.injEq, Prod.mk.injEq, and_true]
  rw [show (t * 4 + r) / 4 = t by omega, show (t * 4 + r) % 4 = r by omega]
theorem partsT_loc (T : Nat) (L : List UInt8) {c : Nat} {x : UInt8} (h : L[c]? = some x) : (partsT T L)[T * 4 + c]? = some ([x], 16 + c) := by
  unfold partsT
  rw [List.getElem?_append_right (by simp), List.getElem?_map, List.length_map, List.length_range, show T * 4 + c - T * 4 = c by omega, List.getElem?_zipIdx, h]
  simp
theorem getD_in (f : FinT) (k : Nat) : -9223372036854775808 ≤ f.l.getD k 0 ∧ f.l.getD k 0 ≤ 9223372036854775807 := by
  rw [List.getD_eq_getElem?_getD]
  cases h : f.l[k]? with
  | none => simp
  | some x => exact f.b x (List.mem_of_getElem? h)
theorem itoa_len (f : FinT) (k : Nat) : (Lib.itoa (f.l.getD k 0)).length ≤ 20 := (itoa_shape _ (getD_in f k).1 (getD_in f k).2).2.1
theorem digit_len {k : Nat} (h : k < 4) : (Lib.itoa (k : Int)).length = 1 := (itoa_shape (k : Int) (by omega) (by omega)).2.2.2.2.1 (by omega) (by omega)
theorem nameT_len {t r : Nat} (ht : t < 4) (hr : r < 4) : (nameT t r).length = 4 := by
  unfold nameT
  simp [digit_len ht, digit_len hr]
theorem partT_len (s name : List UInt8) (n : Int) : (partT s name n).length ≤ s.length + name.length + (Lib.itoa n).length + 2 := by
  unfold partT
  split <;> simp <;> omega
theorem parts_short {T : Nat} {L : List UInt8} (hT : T ≤ 4) : ∀ p ∈ partsT T L, p.1.length ≤ 4 := by
  intro p hp
  unfold partsT at hp
  rcases List.mem_append.1 hp with h | h
  · obtain ⟨k, hk, rfl⟩ := List.mem_map.1 h
    rw [nameT_len (by have := List.mem_range.1 hk; omega) (by omega)]
    omega
  · obtain ⟨x, _, rfl⟩ := List.mem_map.1 h
    simp
theorem foldT_from (f : FinT) : ∀ (ps : List (List UInt8 × Nat)) (s : List UInt8), (∀ p ∈ ps, p.1.length ≤ 4) → (ps.foldl (fun s p => partT s p.1 (f.l.getD p.2 0)) s).length ≤ s.length + ps.length * 26
  | [], s, _ => by simp
  | p :: ps, s, h => by
    rw [List.foldl_cons]
    have h1 := partT_len s p.1 (f.l.getD p.2 0)
    have h2 := foldT_from f ps (partT s p.1 (f.l.getD p.2 0)) (fun q hq => h q (List.mem_cons_of_mem _ hq))
    have h3 := h p List.mem_cons_self
    have h4 := itoa_len f p.2
    rw [List.length_cons]
    omega
theorem foldT_len (f : FinT) (ps : List (List UInt8 × Nat)) (h : ∀ p ∈ ps, p.1.length ≤ 4) : (foldT f ps).length ≤ ps.length * 26 := by
  have := foldT_from f ps [] h
  rw [List.length_nil, Nat.zero_add] at this
  exact this
theorem foldT_bound (f : FinT) {T : Nat} {L : List UInt8} (hT : T ≤ 4) (hL : L.length ≤ 4) (k : Nat) : (foldT f ((partsT T L).take k)).length ≤ 520 := by
  have h := foldT_len f ((partsT T L).take k) (fun p hp => parts_short hT p (List.mem_of_mem_take hp))
  have h2 : ((partsT T L).take k).length ≤ 20 := by
    rw [List.length_take, partsT_len]
    omega
  omega
end Go.Proofs.YtmgjcgolebfjjaaDoor
