/- A test's tokens: how many, how long. In plain Lean, of no memory. -/
import Derived.Test.YtacflahkofmcpaaGreatDoorJ30WlTokP
import Derived.Test.YtacflahkofmcpaaGreatDoorJ27WlSmallH
import Derived.Lib.ItoaLen
namespace Go.Proofs.YtacflahkofmcpaaGreatDoor.Wl
open Go.RowKit

/-- A number of 64 bits. -/
def B64 (v : Int) : Prop := -9223372036854775808 ≤ v ∧ v ≤ 9223372036854775807
theorem blkIni_len (x : InitT) : (iniTk x).length ≤ 4 := by
  unfold iniTk
  simp
theorem blkIni_lens : ∀ (L : List InitT), (L.flatMap iniTk).length ≤ 4 * L.length
  | [] => by simp
  | x :: L => by
    have h1 := blkIni_len x
    have h2 := blkIni_lens L
    rw [List.flatMap_cons, List.length_append, List.length_cons]
    omega
theorem blkIns_len (x : InsT) : (insTk x).length ≤ 7 := by
  unfold insTk
  repeat' split
  all_goals simp
theorem blkIns_lens : ∀ (L : List InsT), (L.flatMap insTk).length ≤ 7 * L.length
  | [] => by simp
  | x :: L => by
    have h1 := blkIns_len x
    have h2 := blkIns_lens L
    rw [List.flatMap_cons, List.length_append, List.length_cons]
    omega
theorem atom_len (x : AtomT) : (atomTk x).length ≤ 5 := by
  unfold atomTk
  split <;> simp
theorem row_len : ∀ (r : List AtomT) (h : ByteArray), (rowTk h r).length ≤ 6 * r.length
  | [], _ => by simp [rowTk]
  | x :: r, h => by
    have h1 := atom_len x
    have h2 := row_len r xAnd
    rw [rowTk, List.length_cons, List.length_append, List.length_cons]
    omega
theorem any_len : ∀ (L : List (List AtomT)) (h : ByteArray), (∀ r ∈ L, r.length ≤ 4002) → (anyTk h L).length ≤ 24012 * L.length
  | [], _, _ => by simp [anyTk]
  | r :: L, h, hr => by
    have h1 := row_len r h
    have h2 := any_len L xOr fun r' h' => hr r' (by simp [h'])
    have h3 := hr r (by simp)
    rw [anyTk, List.length_append, List.length_cons]
    omega
/-- Numbers of 64 bits, and few of everything. -/
structure TestB (t : TestT) : Prop where
  ini : ∀ x ∈ t.ini, B64 x.v
  thr : ∀ L ∈ t.thr, ∀ x ∈ L, B64 x.a.v ∧ B64 x.b.v ∧ B64 x.n
  any : ∀ r ∈ t.cond.any, ∀ x ∈ r, B64 x.t ∧ B64 x.v
  l1 : t.ini.length ≤ 4002
  l2 : t.thr.length ≤ 4002
  l3 : ∀ L ∈ t.thr, L.length ≤ 4002
  l4 : t.cond.any.length ≤ 4002
  l5 : ∀ r ∈ t.cond.any, r.length ≤ 4002
theorem cond_atoms {t : TestT} (h : testOk t = true) (hB : TestB t) : ∀ r ∈ t.cond.any, ∀ x ∈ r, atomOk x = true ∧ B64 x.t ∧ B64 x.v := by
  intro r hr x hx
  unfold testOk at h
  simp only [Bool.and_eq_true] at h
  have h4 := h.2
  unfold condOk at h4
  split at h4
  · have : t.cond.any.length = 0 := by simpa using h4
    rw [List.eq_nil_of_length_eq_zero this] at hr
    simp at hr
  · split at h4
    · rw [Bool.and_eq_true, List.all_eq_true] at h4
      have h5 := h4.2 r hr
      unfold rowOk at h5
      rw [Bool.and_eq_true, List.all_eq_true] at h5
      exact ⟨h5.2 x hx, hB.any r hr x hx⟩
    · cases h4
theorem thr_len (T : List (List InsT)) (h : ∀ L ∈ T, L.length ≤ 4002) : (T.flatMap (blockTk xThr insTk)).length ≤ 40023 * T.length := by
  induction T with
  | nil => simp
  | cons L T ih =>
    have h1 := blkIns_lens L
    have h2 := h L (by simp)
    have h3 := ih (fun L' hL' => h L' (by simp [hL']))
    rw [List.flatMap_cons, List.length_append, List.length_cons]
    have h4 : (blockTk xThr insTk L).length = 3 + (L.flatMap insTk).length := by
      unfold blockTk
      simp
      omega
    omega
def sz (x : ByteArray) : Nat := x.data.toList.length
theorem sz_num {n : Int} (h : B64 n) : sz (numT n) ≤ 21 := by
  show (Lib.itoa n).length ≤ 21
  exact Lib.itoa_length_le n h.1 h.2
theorem sz_opd {o : Opd} (h : B64 o.v) : sz (opdT o) ≤ 21 := by
  unfold opdT
  split
  · exact sz_num h
  · show 2 ≤ 21
    decide
theorem sz_sgn (k : Int) : sz (sgnT k) ≤ 21 := by
  unfold sgnT
  generalize k.toNat = n
  match n with
  | 0 => decide
  | 1 => decide
  | 2 => decide
  | 3 => decide
  | 4 => decide
  | 5 => decide
  | 6 => decide
  | 7 => decide
  | 8 => decide
  | 9 => decide
  | 10 => decide
  | 11 => decide
  | n + 12 => simp [sz]
theorem sz_reg (r : Int) : sz (regT r) ≤ 21 := by show 2 ≤ 21; decide
theorem sz_loc (l : Int) : sz (locT l) ≤ 21 := by show 1 ≤ 21; decide
theorem sz_ini {x : InitT} (h : B64 x.v) : ∀ y ∈ iniTk x, sz y ≤ 21 := by
  intro y hy
  unfold iniTk at hy
  simp only [List.mem_cons, List.not_mem_nil, or_false] at hy
  rcases hy with rfl | rfl | rfl | rfl
  · exact sz_loc _
  · decide
  · exact sz_num h
  · decide
theorem sz_ins {x : InsT} (ha : B64 x.a.v) (hb : B64 x.b.v) (hn : B64 x.n) : ∀ y ∈ insTk x, sz y ≤ 21 := by
  intro y hy
  have h1 := sz_opd ha
  have h2 := sz_opd hb
  have h3 := sz_num hn
  have h4 := sz_reg x.r
  have h5 := sz_loc x.l
  have h6 := sz_sgn x.o
  unfold insTk at hy
  repeat' split at hy
  all_goals
    simp only [List.mem_cons, List.not_mem_nil, or_false] at hy
    rcases hy with rfl | rfl | rfl | rfl | rfl | rfl | rfl | rfl <;> first | assumption | decide
theorem sz_atom {x : AtomT} (ht : B64 x.t) (hv : B64 x.v) : ∀ y ∈ atomTk x, sz y ≤ 21 := by
  intro y hy
  have h1 := sz_num ht
  have h2 := sz_num hv
  have h4 := sz_reg x.r
  have h5 := sz_loc x.l
  unfold atomTk at hy
  split at hy
  all_goals
    simp only [List.mem_cons, List.not_mem_nil, or_false] at hy
    rcases hy with rfl | rfl | rfl | rfl | rfl <;> first | assumption | decide
theorem sz_row : ∀ (r : List AtomT) (h : ByteArray), sz h ≤ 21 → (∀ x ∈ r, B64 x.t ∧ B64 x.v) → ∀ y ∈ rowTk h r, sz y ≤ 21
  | [], _, _, _, y, hy => by simp [rowTk] at hy
  | x :: r, h, hh, hr, y, hy => by
    rw [rowTk] at hy
    rcases List.mem_cons.1 hy with rfl | hy
    · exact hh
    · rcases List.mem_append.1 hy with hy | hy
      · exact sz_atom (hr x (by simp)).1 (hr x (by simp)).2 y hy
      · exact sz_row r xAnd (by decide) (fun z hz => hr z (by simp [hz])) y hy
theorem sz_any : ∀ (L : List (List AtomT)) (h : ByteArray), sz h ≤ 21 → (∀ r ∈ L, ∀ x ∈ r, B64 x.t ∧ B64 x.v) → ∀ y ∈ anyTk h L, sz y ≤ 21
  | [], _, _, _, y, hy => by simp [anyTk] at hy
  | r :: L, h, hh, hr, y, hy => by
    rw [anyTk] at hy
    rcases List.mem_append.1 hy with hy | hy
    · exact sz_row r h hh (hr r (by simp)) y hy
    · exact sz_any L xOr (by decide) (fun z hz => hr z (by simp [hz])) y hy
theorem sz_block {α : Type} {hd : ByteArray} {f : α → List ByteArray} {L : List α} (h : sz hd ≤ 21) (hf : ∀ x ∈ L, ∀ y ∈ f x, sz y ≤ 21) : ∀ y ∈ blockTk hd f L, sz y ≤ 21 := by
  intro y hy
  unfold blockTk at hy
  simp only [List.mem_append, List.mem_cons, List.not_mem_nil, or_false, List.mem_flatMap] at hy
  rcases hy with ((rfl | rfl) | ⟨x, hx, hy⟩) | rfl
  · exact h
  · decide
  · exact hf x hx y hy
  · decide
theorem sz_test {t : TestT} (hB : TestB t) : ∀ y ∈ testTk t, sz y ≤ 21 + sz t.name := by
  intro y hy
  unfold testTk at hy
  simp only [List.mem_append, List.mem_cons, List.not_mem_nil, or_false, List.mem_flatMap] at hy
  rcases hy with ((((rfl | rfl | rfl) | hy) | ⟨L, hL, hy⟩) | hy) | rfl
  · have : sz xTst = 4 := rfl
    omega
  · omega
  · have : sz xOp = 1 := rfl
    omega
  · split at hy
    · have := sz_block (by decide) (fun x hx => sz_ini (hB.ini x hx)) y hy
      omega
    · simp at hy
  · have := sz_block (by decide) (fun x hx => sz_ins (hB.thr L hL x hx).1 (hB.thr L hL x hx).2.1 (hB.thr L hL x hx).2.2) y hy
    omega
  · unfold condTk at hy
    split at hy
    · simp at hy
    · rcases List.mem_append.1 hy with hy | hy
      · have : sz y ≤ 21 := by
          split at hy
          · exact sz_any _ _ (by decide) hB.any y hy
          · exact sz_any _ _ (by decide) hB.any y hy
        omega
      · simp only [List.mem_cons, List.not_mem_nil, or_false] at hy
        subst hy
        have : sz xEnd = 1 := rfl
        omega
  · have : sz xCl = 1 := rfl
    omega
theorem few_test {t : TestT} (hB : TestB t) : (testTk t).length ≤ 300000000 := by
  have n1 := hB.l1
  have n2 := hB.l2
  have n3 := thr_len t.thr hB.l3
  have n4 := any_len t.cond.any (if t.cond.k == 1 then xEx else xFa) hB.l5
  have n4' := hB.l4
  have n5 : (condTk t.cond).length ≤ 96096025 := by
    unfold condTk
    split
    · simp
    · rw [List.length_append, List.length_cons, List.length_nil]
      omega
  have n6 : (blockTk xIni iniTk t.ini).length ≤ 100000 := by
    have := blkIni_lens t.ini
    unfold blockTk
    simp only [List.length_append, List.length_cons, List.length_nil]
    omega
  unfold testTk
  simp only [List.length_append, List.length_cons, List.length_nil]
  split
  · omega
  · simp only [List.length_nil]
    omega
theorem chunks_le (L : List ByteArray) (c : Nat) (h : ∀ y ∈ L, sz y ≤ c) : (L.flatMap chunk).length ≤ L.length * (c + 1) := by
  induction L with
  | nil => simp
  | cons x L ih =>
    have h1 := ih (fun y hy => h y (by simp [hy]))
    have h2 := h x (by simp)
    have h3 : (chunk x).length = sz x + 1 := by unfold chunk sz; simp
    rw [List.flatMap_cons, List.length_append, List.length_cons, Nat.succ_mul, h3]
    omega
theorem text_len {t : TestT} (hB : TestB t) (hn : sz t.name ≤ 100000) : (textL t).length ≤ 140737488355328 := by
  have h1 := chunks_le (testTk t) (21 + sz t.name) (sz_test hB)
  have h2 := few_test hB
  unfold textL
  refine Nat.le_trans h1 ?_
  refine Nat.le_trans (Nat.mul_le_mul h2 (show 21 + sz t.name + 1 ≤ 100022 by omega)) (by decide)
/-! Tests made of numbers. -/
theorem b64_nat (n : Nat) (h : n < 65536) : B64 (n : Int) := ⟨by omega, by omega⟩
theorem insOf_b (locs x : Nat) : ∀ y ∈ insOf locs x, B64 y.a.v ∧ B64 y.b.v ∧ B64 y.n := by
  have z0 : B64 0 := ⟨by omega, by omega⟩
  have z1 : B64 1 := ⟨by omega, by omega⟩
  have z2 : B64 2 := ⟨by omega, by omega⟩
  have ho : B64 (opdOf x).v := by
    unfold opdOf
    split
    · exact z0
    · exact b64_nat _ (by omega)
  intro y hy
  unfold insOf at hy
  repeat' split at hy
  all_goals
    simp only [List.mem_cons, List.not_mem_nil, or_false] at hy
    rcases hy with rfl | rfl <;> first | exact ⟨ho, z0, z0⟩ | exact ⟨z0, z0, z0⟩ | exact ⟨ho, z1, z0⟩ | exact ⟨ho, z0, z1⟩ | exact ⟨z2, z0, z0⟩
theorem rowFrom_b (l : List Int) (most locs : Nat) : ∀ k at' mem, ∀ y ∈ (rowFrom l most locs k at' mem).1, B64 y.a.v ∧ B64 y.b.v ∧ B64 y.n
  | 0, at', mem, y, hy => by simp [rowFrom] at hy
  | k + 1, at', mem, y, hy => by
    unfold rowFrom at hy
    split at hy
    · rcases List.mem_append.1 hy with hy | hy
      · exact insOf_b _ _ y hy
      · exact rowFrom_b l most locs k _ _ y hy
    · simp at hy
theorem thrFrom_b (l : List Int) (most locs : Nat) : ∀ n at' mem, ∀ L ∈ (thrFrom l most locs n at' mem).1, ∀ y ∈ L, B64 y.a.v ∧ B64 y.b.v ∧ B64 y.n
  | 0, at', mem, L, hL, y, hy => by simp [thrFrom] at hL
  | n + 1, at', mem, L, hL, y, hy => by
    unfold thrFrom at hL
    rcases List.mem_cons.1 hL with rfl | hL
    · exact rowFrom_b l most locs _ _ _ y hy
    · exact thrFrom_b l most locs n _ _ L hL y hy
theorem small_B (l : List Int) (most : Nat) : TestB (smallP l most) := by
  obtain ⟨h1, h2⟩ := thrOf_ok l most
  have hi := iniOf_ok l
  have z0 : B64 0 := ⟨by omega, by omega⟩
  have z1 : B64 1 := ⟨by omega, by omega⟩
  have zm : B64 (-1) := ⟨by omega, by omega⟩
  refine ⟨?_, ?_, ?_, ?_, ?_, ?_, ?_, ?_⟩
  · intro x hx
    have hx' : x ∈ iniOf l := hx
    unfold iniOf at hx'
    split at hx'
    · simp only [List.mem_cons, List.not_mem_nil, or_false] at hx'
      subst hx'
      exact b64_nat _ (by omega)
    · simp at hx'
  · exact fun L hL y hy => thrFrom_b l most _ _ _ _ L hL y hy
  · intro r hr x hx
    have hr' : r ∈ (condOf (nxtV l (thrOf l most).2)).any := hr
    unfold condOf at hr'
    split at hr'
    · unfold anyOf at hr'
      simp only [List.mem_cons, List.not_mem_nil, or_false] at hr'
      rcases hr' with rfl | rfl
      · simp only [List.mem_cons, List.not_mem_nil, or_false] at hx
        subst hx
        exact ⟨z0, b64_nat _ (by omega)⟩
      · simp only [List.mem_cons, List.not_mem_nil, or_false] at hx
        rcases hx with rfl | rfl
        · exact ⟨zm, b64_nat _ (by omega)⟩
        · exact ⟨z1, b64_nat _ (by omega)⟩
    · simp at hr'
  · have : (smallP l most).ini = iniOf l := rfl
    rw [this]
    omega
  · have : (smallP l most).thr = (thrOf l most).1 := rfl
    rw [this]
    omega
  · intro L hL
    have := (h2 L hL).1.2.1
    omega
  · have : (smallP l most).cond = condOf (nxtV l (thrOf l most).2) := rfl
    rw [this]
    unfold condOf anyOf
    split <;> simp
  · intro r hr
    have hr' : r ∈ (condOf (nxtV l (thrOf l most).2)).any := hr
    unfold condOf at hr'
    split at hr'
    · unfold anyOf at hr'
      simp only [List.mem_cons, List.not_mem_nil, or_false] at hr'
      rcases hr' with rfl | rfl <;> simp
    · simp at hr'
theorem small_text (l : List Int) (most : Nat) : (textL (smallP l most)).length ≤ 140737488355328 := text_len (small_B l most) (by show 1 ≤ 100000; decide)
theorem itoa_small {k : Nat} (h : k ≤ 9) : Lib.itoa (k : Int) = [UInt8.ofNat (48 + k)] := by
  rw [Lib.itoa, if_neg (by omega), Int.toNat_natCast, Lib.decDigits, dif_pos (by omega)]
/-- Numbers in bounds; lengths as any machine has them. -/
structure TestL (t : TestT) : Prop where
  ini : ∀ x ∈ t.ini, B64 x.v
  thr : ∀ L ∈ t.thr, ∀ x ∈ L, B64 x.a.v ∧ B64 x.b.v ∧ B64 x.n
  any : ∀ r ∈ t.cond.any, ∀ x ∈ r, B64 x.t ∧ B64 x.v
  l1 : t.ini.length ≤ 9223372036854775807
  l2 : t.thr.length ≤ 9223372036854775807
  l3 : ∀ L ∈ t.thr, L.length ≤ 9223372036854775807
theorem TestB.big {t : TestT} (h : TestB t) : TestL t := ⟨h.ini, h.thr, h.any, Nat.le_trans h.l1 (by decide), Nat.le_trans h.l2 (by decide), fun L hL => Nat.le_trans (h.l3 L hL) (by decide)⟩
end Go.Proofs.YtacflahkofmcpaaGreatDoor.Wl
