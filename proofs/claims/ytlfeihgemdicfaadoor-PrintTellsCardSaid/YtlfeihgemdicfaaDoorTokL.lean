/- How long a test's text is; what a test made of numbers has: plain. -/
import Derived.Test.YtlfeihgemdicfaaDoorTokT
import Derived.Test.YtlfeihgemdicfaaDoorJ25SmallH
import Derived.Lib.ItoaLen
namespace Go.Proofs.YtlfeihgemdicfaaDoor
open Go.RowKit

def sz (x : ByteArray) : Nat := x.data.toList.length
theorem sz_num {n : Int} (h : B64 n) : sz (numT n) ≤ 21 := by
  show (Lib.itoa n).length ≤ 21
  exact Lib.itoa_length_le n h.1 h.2
theorem sz_opd {o : Opd} (h : B64 o.v) : sz (opdT o) ≤ 21 := by
  unfold opdT
  split
  · exact sz_num h
  · show 2 ≤ 21
    decide
theorem sz_sgn (k : Int) : sz (sgnT k) ≤ 21 := by
  unfold sgnT
  generalize k.toNat = n
  match n with
  | 0 => decide
  | 1 => decide
  | 2 => decide
  | 3 => decide
  | 4 => decide
  | 5 => decide
  | 6 => decide
  | 7 => decide
  | 8 => decide
  | 9 => decide
  | 10 => decide
  | 11 => decide
  | n + 12 => simp [sz]
theorem sz_reg (r : Int) : sz (regT r) ≤ 21 := by show 2 ≤ 21; decide
theorem sz_loc (l : Int) : sz (locT l) ≤ 21 := by show 1 ≤ 21; decide
theorem sz_ini {x : InitT} (h : B64 x.v) : ∀ y ∈ iniTk x, sz y ≤ 21 := by
  intro y hy
  unfold iniTk at hy
  simp only [List.mem_cons, List.not_mem_nil, or_false] at hy
  rcases hy with rfl | rfl | rfl | rfl
  · exact sz_loc _
  · decide
  · exact sz_num h
  · decide
theorem sz_ins {x : InsT} (ha : B64 x.a.v) (hb : B64 x.b.v) (hn : B64 x.n) : ∀ y ∈ insTk x, sz y ≤ 21 := by
  intro y hy
  have h1 := sz_opd ha
  have h2 := sz_opd hb
  have h3 := sz_num hn
  have h4 := sz_reg x.r
  have h5 := sz_loc x.l
  have h6 := sz_sgn x.o
  unfold insTk at hy
  repeat' split at hy
  all_goals
    simp only [List.mem_cons, List.not_mem_nil, or_false] at hy
    rcases hy with rfl | rfl | rfl | rfl | rfl | rfl | rfl | rfl <;> first | assumption | decide
theorem sz_atom {x : AtomT} (ht : B64 x.t) (hv : B64 x.v) : ∀ y ∈ atomTk x, sz y ≤ 21 := by
  intro y hy
  have h1 := sz_num ht
  have h2 := sz_num hv
  have h4 := sz_reg x.r
  have h5 := sz_loc x.l
  unfold atomTk at hy
  split at hy
  all_goals
    simp only [List.mem_cons, List.not_mem_nil, or_false] at hy
    rcases hy with rfl | rfl | rfl | rfl | rfl <;> first | assumption | decide
theorem sz_row : ∀ (r : List AtomT) (h : ByteArray), sz h ≤ 21 → (∀ x ∈ r, B64 x.t ∧ B64 x.v) → ∀ y ∈ rowTk h r, sz y ≤ 21
  | [], _, _, _, y, hy => by simp [rowTk] at hy
  | x :: r, h, hh, hr, y, hy => by
    rw [rowTk] at hy
    rcases List.mem_cons.1 hy with rfl | hy
    · exact hh
    · rcases List.mem_append.1 hy with hy | hy
      · exact sz_atom (hr x (by simp)).1 (hr x (by simp)).2 y hy
      · exact sz_row r xAnd (by decide) (fun z hz => hr z (by simp [hz])) y hy
theorem sz_any : ∀ (L : List (List AtomT)) (h : ByteArray), sz h ≤ 21 → (∀ r ∈ L, ∀ x ∈ r, B64 x.t ∧ B64 x.v) → ∀ y ∈ anyTk h L, sz y ≤ 21
  | [], _, _, _, y, hy => by simp [anyTk] at hy
  | r :: L, h, hh, hr, y, hy => by
    rw [anyTk] at hy
    rcases List.mem_append.1 hy with hy | hy
    · exact sz_row r h hh (hr r (by simp)) y hy
    · exact sz_any L xOr (by decide) (fun z hz => hr z (by simp [hz])) y hy
theorem sz_block {α : Type} {hd : ByteArray} {f : α → List ByteArray} {L : List α} (h : sz hd ≤ 21) (hf : ∀ x ∈ L, ∀ y ∈ f x, sz y ≤ 21) : ∀ y ∈ blockTk hd f L, sz y ≤ 21 := by
  intro y hy
  unfold blockTk at hy
  simp only [List.mem_append, List.mem_cons, List.not_mem_nil, or_false, List.mem_flatMap] at hy
  rcases hy with ((rfl | rfl) | ⟨x, hx, hy⟩) | rfl
  · exact h
  · decide
  · exact hf x hx y hy
  · decide
theorem sz_test {t : TestT} (hB : TestB t) : ∀ y ∈ testTk t, sz y ≤ 21 + sz t.name := by
  intro y hy
  unfold testTk at hy
  simp only [List.mem_append, List.mem_cons, List.not_mem_nil, or_false, List.mem_flatMap] at hy
  rcases hy with ((((rfl | rfl | rfl) | hy) | ⟨L, hL, hy⟩) | hy) | rfl
  · have : sz xTst = 4 := rfl
    omega
  · omega
  · have : sz xOp = 1 := rfl
    omega
  · split at hy
    · have := sz_block (by decide) (fun x hx => sz_ini (hB.ini x hx)) y hy
      omega
    · simp at hy
  · have := sz_block (by decide) (fun x hx => sz_ins (hB.thr L hL x hx).1 (hB.thr L hL x hx).2.1 (hB.thr L hL x hx).2.2) y hy
    omega
  · unfold condTk at hy
    split at hy
    · simp at hy
    · rcases List.mem_append.1 hy with hy | hy
      · have : sz y ≤ 21 := by
          split at hy
          · exact sz_any _ _ (by decide) hB.any y hy
          · exact sz_any _ _ (by decide) hB.any y hy
        omega
      · simp only [List.mem_cons, List.not_mem_nil, or_false] at hy
        subst hy
        have : sz xEnd = 1 := rfl
        omega
  · have : sz xCl = 1 := rfl
    omega
theorem few_test {t : TestT} (hB : TestB t) : (testTk t).length ≤ 17000000 := by
  have n1 := hB.l1
  have n2 := hB.l2
  have n3 := thr_len t.thr hB.l3
  have n4 := any_len t.cond.any (if t.cond.k == 1 then xEx else xFa) hB.l5
  have n4' := hB.l4
  have n5 : (condTk t.cond).length ≤ 6000001 := by
    unfold condTk
    split
    · simp
    · rw [List.length_append, List.length_cons, List.length_nil]
      omega
  have n6 : (blockTk xIni iniTk t.ini).length ≤ 100000 := by
    have := blkIni_lens t.ini
    unfold blockTk
    simp only [List.length_append, List.length_cons, List.length_nil]
    omega
  unfold testTk
  simp only [List.length_append, List.length_cons, List.length_nil]
  split
  · omega
  · simp only [List.length_nil]
    omega
theorem chunks_le (L : List ByteArray) (c : Nat) (h : ∀ y ∈ L, sz y ≤ c) : (L.flatMap chunk).length ≤ L.length * (c + 1) := by
  induction L with
  | nil => simp
  | cons x L ih =>
    have h1 := ih (fun y hy => h y (by simp [hy]))
    have h2 := h x (by simp)
    have h3 : (chunk x).length = sz x + 1 := by unfold chunk sz; simp
    rw [List.flatMap_cons, List.length_append, List.length_cons, Nat.succ_mul, h3]
    omega
theorem text_len {t : TestT} (hB : TestB t) (hn : sz t.name ≤ 100000) : (textL t).length ≤ 140737488355328 := by
  have h1 := chunks_le (testTk t) (21 + sz t.name) (sz_test hB)
  have h2 := few_test hB
  unfold textL
  refine Nat.le_trans h1 ?_
  refine Nat.le_trans (Nat.mul_le_mul h2 (show 21 + sz t.name + 1 ≤ 100022 by omega)) (by decide)
/-! Tests made of numbers. -/
theorem b64_nat (n : Nat) (h : n < 65536) : B64 (n : Int) := ⟨by omega, by omega⟩
theorem insOf_b (locs x : Nat) : ∀ y ∈ insOf locs x, B64 y.a.v ∧ B64 y.b.v ∧ B64 y.n := by
  have z0 : B64 0 := ⟨by omega, by omega⟩
  have z1 : B64 1 := ⟨by omega, by omega⟩
  have z2 : B64 2 := ⟨by omega, by omega⟩
  have ho : B64 (opdOf x).v := by
    unfold opdOf
    split
    · exact z0
    · exact b64_nat _ (by omega)
  intro y hy
  unfold insOf at hy
  repeat' split at hy
  all_goals
    simp only [List.mem_cons, List.not_mem_nil, or_false] at hy
    rcases hy with rfl | rfl <;> first | exact ⟨ho, z0, z0⟩ | exact ⟨z0, z0, z0⟩ | exact ⟨ho, z1, z0⟩ | exact ⟨ho, z0, z1⟩ | exact ⟨z2, z0, z0⟩
theorem rowFrom_b (l : List Int) (most locs : Nat) : ∀ k at' mem, ∀ y ∈ (rowFrom l most locs k at' mem).1, B64 y.a.v ∧ B64 y.b.v ∧ B64 y.n
  | 0, at', mem, y, hy => by simp [rowFrom] at hy
  | k + 1, at', mem, y, hy => by
    unfold rowFrom at hy
    split at hy
    · rcases List.mem_append.1 hy with hy | hy
      · exact insOf_b _ _ y hy
      · exact rowFrom_b l most locs k _ _ y hy
    · simp at hy
theorem thrFrom_b (l : List Int) (most locs : Nat) : ∀ n at' mem, ∀ L ∈ (thrFrom l most locs n at' mem).1, ∀ y ∈ L, B64 y.a.v ∧ B64 y.b.v ∧ B64 y.n
  | 0, at', mem, L, hL, y, hy => by simp [thrFrom] at hL
  | n + 1, at', mem, L, hL, y, hy => by
    unfold thrFrom at hL
    rcases List.mem_cons.1 hL with rfl | hL
    · exact rowFrom_b l most locs _ _ _ y hy
    · exact thrFrom_b l most locs n _ _ L hL y hy
theorem small_B (l : List Int) (most : Nat) : TestB (smallP l most) := by
  obtain ⟨h1, h2⟩ := thrOf_ok l most
  have hi := iniOf_ok l
  have z0 : B64 0 := ⟨by omega, by omega⟩
  have z1 : B64 1 := ⟨by omega, by omega⟩
  have zm : B64 (-1) := ⟨by omega, by omega⟩
  refine ⟨?_, ?_, ?_, ?_, ?_, ?_, ?_, ?_⟩
  · intro x hx
    have hx' : x ∈ iniOf l := hx
    unfold iniOf at hx'
    split at hx'
    · simp only [List.mem_cons, List.not_mem_nil, or_false] at hx'
      subst hx'
      exact b64_nat _ (by omega)
    · simp at hx'
  · exact fun L hL y hy => thrFrom_b l most _ _ _ _ L hL y hy
  · intro r hr x hx
    have hr' : r ∈ (condOf (nxtV l (thrOf l most).2)).any := hr
    unfold condOf at hr'
    split at hr'
    · unfold anyOf at hr'
      simp only [List.mem_cons, List.not_mem_nil, or_false] at hr'
      rcases hr' with rfl | rfl
      · simp only [List.mem_cons, List.not_mem_nil, or_false] at hx
        subst hx
        exact ⟨z0, b64_nat _ (by omega)⟩
      · simp only [List.mem_cons, List.not_mem_nil, or_false] at hx
        rcases hx with rfl | rfl
        · exact ⟨zm, b64_nat _ (by omega)⟩
        · exact ⟨z1, b64_nat _ (by omega)⟩
    · simp at hr'
  · have : (smallP l most).ini = iniOf l := rfl
    rw [this]
    omega
  · have : (smallP l most).thr = (thrOf l most).1 := rfl
    rw [this]
    omega
  · intro L hL
    have := (h2 L hL).1.2.1
    omega
  · have : (smallP l most).cond = condOf (nxtV l (thrOf l most).2) := rfl
    rw [this]
    unfold condOf anyOf
    split <;> simp
  · intro r hr
    have hr' : r ∈ (condOf (nxtV l (thrOf l most).2)).any := hr
    unfold condOf at hr'
    split at hr'
    · unfold anyOf at hr'
      simp only [List.mem_cons, List.not_mem_nil, or_false] at hr'
      rcases hr' with rfl | rfl <;> simp
    · simp at hr'
theorem small_text (l : List Int) (most : Nat) : (textL (smallP l most)).length ≤ 140737488355328 := text_len (small_B l most) (by show 1 ≤ 100000; decide)
theorem TOwn.rd4 {w : World} {base : Nat} {v : Value} {t : TestT} (h : TOwn w base v t) : ∃ a1 c1 a2 c2 a3 c3, v = .agg #[.string t.name, .slice a1 t.ini.length c1, .slice a2 t.thr.length c2, .int .i64 t.cond.k, .slice a3 t.cond.any.length c3] ∧
    Rd iniC 2 w (.slice a1 t.ini.length c1) t.ini ∧ Rd2 insC 9 w (.slice a2 t.thr.length c2) t.thr ∧ Rd2 atomC 4 w (.slice a3 t.cond.any.length c3) t.cond.any := by
  obtain ⟨a1, c1, a2, c2, a3, c3, e, h1, h2, h3⟩ := h
  exact ⟨a1, c1, a2, c2, a3, c3, e, Rd.own (fun _ => rfl) h1, h2.rd (fun _ => rfl), h3.rd (fun _ => rfl)⟩
end Go.Proofs.YtlfeihgemdicfaaDoor
