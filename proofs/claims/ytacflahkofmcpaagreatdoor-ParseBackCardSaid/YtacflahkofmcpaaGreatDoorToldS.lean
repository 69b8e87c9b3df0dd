/- Made tests: their texts are short; they stand where other blocks are written. -/
import Derived.Test.YtacflahkofmcpaaGreatDoorWlTokM
import Derived.Test.YtacflahkofmcpaaGreatDoorWlTOwnR
import Derived.Test.YtacflahkofmcpaaGreatDoorWlTys
import Derived.Test.YtacflahkofmcpaaGreatDoorJ27WlOkIns
import Derived.Test.YtacflahkofmcpaaGreatDoorJ02LexTake
namespace Go.Proofs.YtacflahkofmcpaaGreatDoor.Wl
open Go.RowKit

theorem lw_of {w : World} (h : Go.Proofs.YtacflahkofmcpaaGreatDoor.Lw w) : Lw w := ⟨h.sgs⟩
section
variable {α : Type} {C : α → List Value} {k : Nat} {eo ei : TypeId} {w w' : World} {base : Nat} {v : Value} {LL : List (List α)}
theorem Own2.setT {N : Nat} {cs : Array Value} {T : TypeId} (h : Own2 C k eo ei w base v LL) (ht : w.heap[N]? = some (.cells cs T (0, 0))) (h1 : eo ≠ T) (h2 : ei ≠ T) (i : Nat) (u : Value) : Own2 C k eo ei (w.setCell ⟨N, i, none⟩ u) base v LL := by
  obtain ⟨vs, p1, p2, p3⟩ := h
  exact ⟨vs, p1, own_setT p2 ht h1 i u, fun j x L a b => own_setT (p3 j x L a b) ht h2 i u⟩
end
/-- A made test stands where a block of another kind is written. -/
theorem TOwn.setT {w : World} {base N : Nat} {cs : Array Value} {v : Value} {t : TestT} (h : TOwn w base v t) (ht : w.heap[N]? = some (.cells cs 28 (0, 0))) (i : Nat) (u : Value) : TOwn (w.setCell ⟨N, i, none⟩ u) base v t := by
  obtain ⟨a1, c1, a2, c2, a3, c3, e, h1, h2, h3⟩ := h
  exact ⟨a1, c1, a2, c2, a3, c3, e, own_setT h1 ht (by decide) i u, h2.setT ht (by decide) (by decide) i u, h3.setT ht (by decide) (by decide) i u⟩
theorem TOwn.onK {w w' : World} {base : Nat} {v : Value} {t : TestT} (h : TOwn w base v t) (k : On w w') : TOwn w' base v t := by
  obtain ⟨a1, c1, a2, c2, a3, c3, e, h1, h2, h3⟩ := h
  exact ⟨a1, c1, a2, c2, a3, c3, e, own_on h1 k, h2.on k, h3.on k⟩
theorem TOwn.rdW {w : World} {base : Nat} {v : Value} {t : TestT} (h : TOwn w base v t) (hn : t.name.size ≤ 9223372036854775807) : TestRd w v t := by
  obtain ⟨a1, c1, a2, c2, a3, c3, e, h1, h2, h3⟩ := h.rd4
  exact ⟨a1, c1, a2, c2, a3, c3, e, hn, h1, h2, h3⟩
/-- A made test's text is short. -/
theorem small_short (zs : List Int) (m : Nat) : (textL (smallP zs m)).length ≤ 4000 := by
  have hB := small_B zs m
  have h1 := chunks_le (testTk (smallP zs m)) (21 + sz (smallP zs m).name) (sz_test hB)
  obtain ⟨t1, t2⟩ := thrOf_ok zs m
  obtain ⟨_, i2, _⟩ := iniOf_ok zs
  have ht : ((smallP zs m).thr.flatMap (blockTk xThr insTk)).length ≤ 45 * (smallP zs m).thr.length := by
    have key : ∀ LL : List (List InsT), (∀ L ∈ LL, L.length ≤ 6) → (LL.flatMap (blockTk xThr insTk)).length ≤ 45 * LL.length := by
      intro LL
      induction LL with
      | nil => intro _; simp
      | cons L LL ih =>
        intro h
        have h0 := ih fun M hM => h M (by simp [hM])
        have h2 := h L (by simp)
        have h3 := blkIns_lens L
        rw [List.flatMap_cons, List.length_append, List.length_cons]
        unfold blockTk at h0 ⊢
        simp only [List.length_append, List.length_cons, List.length_nil] at h0 ⊢
        omega
    exact key _ fun L hL => (t2 L hL).1.2.1
  have hc : (condTk (smallP zs m).cond).length ≤ 20 := by
    show (condTk (condOf _)).length ≤ 20
    generalize nxtV zs (thrOf zs m).2 = x
    unfold condOf
    split
    · unfold condTk anyOf
      simp [anyTk, rowTk, atomTk]
      split <;> simp
    · simp [condTk]
  have hi : (if 0 < (smallP zs m).ini.length then blockTk xIni iniTk (smallP zs m).ini else []).length ≤ 7 := by
    have i2' : (smallP zs m).ini.length ≤ 1 := i2
    have h3 := blkIni_lens (smallP zs m).ini
    split
    · unfold blockTk
      simp only [List.length_append, List.length_cons, List.length_nil]
      omega
    · simp
  have ht' : (smallP zs m).thr.length ≤ 3 := by
    show (thrOf zs m).1.length ≤ 3
    omega
  have hn : (testTk (smallP zs m)).length ≤ 166 := by
    unfold testTk
    simp only [List.length_append, List.length_cons, List.length_nil]
    omega
  have hz : sz (smallP zs m).name = 1 := rfl
  rw [hz] at h1
  unfold textL
  refine Nat.le_trans h1 (Nat.le_trans (Nat.mul_le_mul_right _ hn) (by decide))
abbrev tA (T : TestT) (a1 : Option Addr) (c1 : Nat) (a2 : Option Addr) (c2 : Nat) (a3 : Option Addr) (c3 : Nat) : Array Value := #[.string T.name, .slice a1 T.ini.length c1, .slice a2 T.thr.length c2, .int .i64 T.cond.k, .slice a3 T.cond.any.length c3]
end Go.Proofs.YtacflahkofmcpaaGreatDoor.Wl
