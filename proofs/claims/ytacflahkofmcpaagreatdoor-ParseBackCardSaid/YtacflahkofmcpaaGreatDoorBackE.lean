/- A printed text with more blanks behind its blanks is parsed to the same test; how long a text of any test that a machine can hold is. In plain Lean. -/
import Derived.Test.YtacflahkofmcpaaGreatDoorBackW
import Derived.Test.YtacflahkofmcpaaGreatDoorToldS
import Derived.Test.YtacflahkofmcpaaGreatDoorWlRPrG
import Derived.Test.YtacflahkofmcpaaGreatDoorWlSizeArg
namespace Go.Proofs.YtacflahkofmcpaaGreatDoor.Wl
open Go.RowKit

/-- q is p, with blanks put in behind some of its blanks. -/
def Ext : List UInt8 → List UInt8 → Prop
  | [], q => q = []
  | b :: p, q => ∃ g q', blL g ∧ (b ≠ 32 → g = []) ∧ q = b :: (g ++ q') ∧ Ext p q'
theorem Ext.snoc : ∀ {p q : List UInt8} {b : UInt8} {g : List UInt8}, Ext p q → blL g → (b ≠ 32 → g = []) → Ext (p ++ [b]) (q ++ b :: g)
  | [], q, b, g, h, hg, hb => by
    have h' : q = [] := h
    subst h'
    exact ⟨g, [], hg, hb, by simp, rfl⟩
  | c :: p, q, b, g, h, hg, hb => by
    obtain ⟨g', q', h1, h2, rfl, h3⟩ := h
    exact ⟨g', q' ++ b :: g, h1, h2, by simp, h3.snoc hg hb⟩
theorem ext_plain : ∀ {p1 p2 q : List UInt8}, (∀ b ∈ p1, b ≠ 32) → Ext (p1 ++ p2) q → ∃ q2, q = p1 ++ q2 ∧ Ext p2 q2
  | [], p2, q, _, h => ⟨q, rfl, h⟩
  | b :: p1, p2, q, hp, h => by
    obtain ⟨g, q', _, h2, rfl, h3⟩ := h
    obtain rfl := h2 (hp b (by simp))
    obtain ⟨q2, rfl, h4⟩ := ext_plain (fun c hc => hp c (by simp [hc])) h3
    exact ⟨q2, by simp, h4⟩
theorem good_no32 {x : ByteArray} (h : goodTk x = true) : ∀ b ∈ x.data.toList, b ≠ 32 := by
  intro b hb
  unfold goodTk at h
  rw [Bool.or_eq_true] at h
  rcases h with h | h
  · unfold plainTk at h
    rw [Bool.and_eq_true, List.all_eq_true] at h
    exact (plain_no (h.2 b hb)).2.1
  · unfold endTk at h
    simp only [Bool.or_eq_true, beq_iff_eq] at h
    rcases h with (h | h) | h <;> rw [h] at hb <;> simp at hb <;> subst hb <;> decide
theorem ext_sp : ∀ (L : List ByteArray) (q : List UInt8), (∀ x ∈ L, goodTk x = true) → Ext (L.flatMap chunk) q → Sp L q
  | [], q, _, h => h
  | x :: L, q, hL, h => by
    rw [List.flatMap_cons] at h
    unfold chunk at h
    rw [List.append_assoc] at h
    obtain ⟨q1, rfl, h1⟩ := ext_plain (good_no32 (hL x (by simp))) h
    rw [List.singleton_append] at h1
    obtain ⟨g, q2, hg, _, rfl, h2⟩ := h1
    refine ⟨gapB x, g, q2, ?_, hg, rfl, ext_sp L q2 (fun y hy => hL y (by simp [hy])) h2⟩
    unfold gapB
    split <;> decide
/-- What is printed of a test, and what its text with more blanks is parsed to. -/
def Says (X : TestT) (P : ByteArray) : Prop :=
  (∀ v W, TestRd W v X → Calls Tryz.prog 10 #[v] W fun e w' => e = .returned (.string P) ∧ On W w') ∧
  (¬ P.size = 0 → ∀ Q : ByteArray, Ext P.data.toList Q.data.toList → Q.size ≤ 4000 → ∀ W, Go.Proofs.YtacflahkofmcpaaGreatDoor.Lw W → Calls Tryz.prog 11 #[.string Q] W (Parsed W X 0 0))
theorem says_of {X : TestT} (hB : TestL X) (hl : testOk X = true → (textL X).length ≤ 2305843009213693952) : ∃ P, Says X P := by
  cases h : testOk X with
  | false => exact ⟨⟨#[]⟩, fun v W hr => rprint_no X v W hr h, fun h0 => absurd rfl h0⟩
  | true => exact ⟨⟨(textL X).toArray⟩, fun v W hr => rprint_big X v W hr h hB (hl h), fun _ Q hQ hz W hw => parse_back h hB Q (ext_sp _ _ (good_test h) hQ) hz W hw⟩
theorem says_small (zs : List Int) (m : Nat) : ∃ P, Says (smallP zs m) P := says_of (small_B zs m).big fun _ => Nat.le_trans (small_text zs m) (by decide)
theorem flat_le {α : Type} (f : α → List ByteArray) (c : Nat) (hf : ∀ x, (f x).length ≤ c) : ∀ L : List α, (L.flatMap f).length ≤ c * L.length
  | [] => by simp
  | x :: L => by
    have h1 := flat_le f c hf L
    have h2 := hf x
    rw [List.flatMap_cons, List.length_append, List.length_cons, Nat.mul_succ]
    omega
theorem thr_le (R : Nat) (T : List (List InsT)) (h : ∀ L ∈ T, L.length ≤ R) : (T.flatMap (blockTk xThr insTk)).length ≤ (7 * R + 3) * T.length := by
  induction T with
  | nil => simp
  | cons L T ih =>
    have h1 := ih fun M hM => h M (by simp [hM])
    have h2 := h L (by simp)
    have h3 := blkIns_lens L
    have e : (blockTk xThr insTk L).length ≤ 7 * R + 3 := by
      unfold blockTk
      simp only [List.length_append, List.length_cons, List.length_nil]
      omega
    rw [List.flatMap_cons, List.length_append, List.length_cons, Nat.mul_succ]
    omega
theorem any_le (R : Nat) : ∀ (T : List (List AtomT)) (a : ByteArray), (∀ L ∈ T, L.length ≤ R) → (anyTk a T).length ≤ 6 * R * T.length
  | [], _, _ => by simp [anyTk]
  | r :: T, a, h => by
    have h1 := any_le R T xOr fun M hM => h M (by simp [hM])
    have h2 := row_len r a
    have h3 := h r (by simp)
    rw [anyTk, List.length_append, List.length_cons, Nat.mul_succ]
    omega
theorem sz_testL {t : TestT} (hB : TestL t) : ∀ y ∈ testTk t, sz y ≤ 21 + sz t.name := by
  intro y hy
  unfold testTk at hy
  simp only [List.mem_append, List.mem_cons, List.not_mem_nil, or_false, List.mem_flatMap] at hy
  rcases hy with ((((rfl | rfl | rfl) | hy) | ⟨L, hL, hy⟩) | hy) | rfl
  · have : sz xTst = 4 := rfl
    omega
  · omega
  · have : sz xOp = 1 := rfl
    omega
  · split at hy
    · have := sz_block (by decide) (fun x hx => sz_ini (hB.ini x hx)) y hy
      omega
    · simp at hy
  · have := sz_block (by decide) (fun x hx => sz_ins (hB.thr L hL x hx).1 (hB.thr L hL x hx).2.1 (hB.thr L hL x hx).2.2) y hy
    omega
  · unfold condTk at hy
    split at hy
    · simp at hy
    · rcases List.mem_append.1 hy with hy | hy
      · have : sz y ≤ 21 := by
          split at hy
          · exact sz_any _ _ (by decide) hB.any y hy
          · exact sz_any _ _ (by decide) hB.any y hy
        omega
      · simp only [List.mem_cons, List.not_mem_nil, or_false] at hy
        subst hy
        have : sz xEnd = 1 := rfl
        omega
  · have : sz xCl = 1 := rfl
    omega
/-- A test that a machine can hold, of few threads and rows: its text is no longer than a number can tell. -/
theorem big_text {t : TestT} (hB : TestL t) (hz : testZ t) (h1 : t.thr.length ≤ 6) (h2 : t.ini.length ≤ 10) (h3 : t.name.size ≤ 50) (h4 : t.cond.any.length ≤ 10) : (textL t).length ≤ 2305843009213693952 := by
  have k1 := chunks_le (testTk t) (21 + sz t.name) (sz_testL hB)
  have n1 := thr_le 140737488351232 t.thr hz.1
  have n2 := any_le 140737488351232 t.cond.any (if t.cond.k == 1 then xEx else xFa) hz.2
  have n3 : (condTk t.cond).length ≤ 8444249301073921 := by
    unfold condTk
    split
    · simp
    · rw [List.length_append, List.length_cons, List.length_nil]
      omega
  have n4 : (if 0 < t.ini.length then blockTk xIni iniTk t.ini else []).length ≤ 43 := by
    have := blkIni_lens t.ini
    split
    · unfold blockTk
      simp only [List.length_append, List.length_cons, List.length_nil]
      omega
    · simp
  have n5 : (testTk t).length ≤ 15000000000000000 := by
    unfold testTk
    simp only [List.length_append, List.length_cons, List.length_nil]
    omega
  have hs : t.name.size = sz t.name := Go.Proofs.YtacflahkofmcpaaGreatDoor.size_list t.name
  unfold textL
  refine Nat.le_trans k1 (Nat.le_trans (Nat.mul_le_mul n5 (show 21 + sz t.name + 1 ≤ 72 by omega)) (by decide))
theorem testL_of {t : TestT} {v : Value} {w : World} (hr : TestRd w v t) (hi : testI t) : TestL t := by
  obtain ⟨a1, c1, a2, c2, a3, c3, _, _, r1, r2, r3⟩ := hr.ex
  obtain ⟨_, _, _, _, m1⟩ := r1.slice
  obtain ⟨_, _, _, _, m2⟩ := r2.slice
  refine ⟨fun x hx => (hi.1 x hx).2, fun L hL x hx => ?_, fun r hr x hx => ?_, m1, m2, fun L hL => ?_⟩
  · have := hi.2.1 L hL x hx
    exact ⟨this.2.2.2.2.1, this.2.2.2.2.2.2.2.1, this.2.2.2.2.2.2.2.2⟩
  · have := hi.2.2.2 r hr x hx
    exact ⟨this.1, this.2.2.2⟩
  · obtain ⟨vs, hv, _, hR⟩ := r2
    obtain ⟨i, hi', he⟩ := List.mem_iff_getElem.1 hL
    obtain ⟨_, _, _, _, m⟩ := (hR i vs[i] L (List.getElem?_eq_getElem (by omega)) (by rw [List.getElem?_eq_getElem hi', he])).slice
    exact m
end Go.Proofs.YtacflahkofmcpaaGreatDoor.Wl
