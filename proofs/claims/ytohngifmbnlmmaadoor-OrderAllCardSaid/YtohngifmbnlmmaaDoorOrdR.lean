/- Rows that keep a relation, in plain Lean: how many there are. -/
import Derived.Test.YtohngifmbnlmmaaDoorOrdE
namespace Go.Proofs.YtohngifmbnlmmaaDoor

def factN : Nat → Nat
  | 0 => 1
  | k + 1 => (k + 1) * factN k
theorem countP_cut (p : Nat → Bool) (n m : Nat) (h : n ≤ m) (hp : ∀ a, n ≤ a → p a = false) : (List.range m).countP p = (List.range n).countP p := by
  obtain ⟨d, rfl⟩ : ∃ d, m = n + d := ⟨m - n, by omega⟩
  rw [List.range_add, List.countP_append]
  have : (List.map (fun x => n + x) (List.range d)).countP p = 0 := List.countP_eq_zero.2 fun a ha => by
    obtain ⟨b, _, rfl⟩ := List.mem_map.1 ha
    rw [hp (n + b) (by omega)]
    decide
  omega
theorem free_len (n : Nat) (D : Nat → Nat) (t : Nat) (hn : n ≤ 64) (ht : t < 18446744073709551616) : (bits64 (freeN n D t)).length = (List.range n).countP (mayP n D t) := by
  unfold bits64
  rw [← List.countP_eq_length_filter, ← countP_cut (mayP n D t) n 64 hn (fun a ha => by
    cases h : mayP n D t a with
    | false => rfl
    | true => have := may_lt h; omega)]
  refine List.countP_congr fun a _ => ?_
  rw [free_bit n D t a hn ht]
theorem free_le {n : Nat} {D : Nat → Nat} {t : Nat} (hn : n ≤ 64) (ht : t < 18446744073709551616) : (bits64 (freeN n D t)).length ≤ outs n t := by
  rw [free_len n D t hn ht]
  unfold outs
  refine List.countP_mono_left fun a _ h => ?_
  rw [may_new h]
  rfl
theorem free_eq {n : Nat} {D : Nat → Nat} {t : Nat} (hn : n ≤ 64) (ht : t < 18446744073709551616) (hD : ∀ a, D a = 0) : (bits64 (freeN n D t)).length = outs n t := by
  rw [free_len n D t hn ht]
  unfold outs
  refine List.countP_congr fun a ha => ?_
  have : a < n := by simpa using ha
  unfold mayP
  rw [hD a]
  simp [this]
theorem flat_le {α β : Type} (f : α → List β) (c : Nat) : ∀ L : List α, (∀ a ∈ L, (f a).length ≤ c) → (L.flatMap f).length ≤ L.length * c
  | [], _ => by simp
  | a :: L, h => by
    rw [List.flatMap_cons, List.length_append, List.length_cons, Nat.succ_mul]
    have h1 := h a (by simp)
    have h2 := flat_le f c L (fun b hb => h b (by simp [hb]))
    omega
theorem flat_eq {α β : Type} (f : α → List β) (c : Nat) : ∀ L : List α, (∀ a ∈ L, (f a).length = c) → (L.flatMap f).length = L.length * c
  | [], _ => by simp
  | a :: L, h => by
    rw [List.flatMap_cons, List.length_append, List.length_cons, Nat.succ_mul, h a (by simp), flat_eq f c L (fun b hb => h b (by simp [hb]))]
    omega
theorem exts_le {n : Nat} {D : Nat → Nat} (hn : n ≤ 64) : ∀ (k t : Nat), t < 18446744073709551616 → outs n t = k → (exts n D k t).length ≤ factN k
  | 0, _, _, _ => by simp [exts, factN]
  | k + 1, t, ht, ho => by
    rw [exts, factN]
    refine Nat.le_trans (flat_le _ (factN k) _ fun a ha => ?_) (Nat.mul_le_mul_right _ (by have := free_le (D := D) hn ht; omega))
    rw [List.length_map]
    exact exts_le hn k _ (with_lt _ _ ht) (by have := outs_may hn ((mem_free hn ht).1 ha); omega)
theorem exts_eq {n : Nat} {D : Nat → Nat} (hn : n ≤ 64) (hD : ∀ a, D a = 0) : ∀ (k t : Nat), t < 18446744073709551616 → outs n t = k → (exts n D k t).length = factN k
  | 0, _, _, _ => by simp [exts, factN]
  | k + 1, t, ht, ho => by
    rw [exts, factN, flat_eq _ (factN k) _ (fun a ha => by
      rw [List.length_map]
      exact exts_eq hn hD k _ (with_lt _ _ ht) (by have := outs_may hn ((mem_free hn ht).1 ha); omega)), free_eq hn ht hD, ho]
theorem ords_le {r : RelT} (hr : Wf r) : (ordsR r).length ≤ factN r.n := by
  unfold ordsR
  rw [need_len]
  exact exts_le hr.n r.n 0 (by decide) (outs_zero _)
theorem ords_new (m : Nat) (hm : m ≤ 64) : (ordsR (newR m)).length = factN m := by
  have hn : (newR (m : Int)).n = m := by rw [new_n]; omega
  unfold ordsR
  rw [need_len, hn]
  refine exts_eq hm (fun a => ?_) m 0 (by decide) (outs_zero _)
  rw [need_D (new_wf m)]
  apply Nat.eq_of_testBit_eq
  intro b
  rw [Nat.zero_testBit]
  have := inv_H (new_wf (m : Int)) a b
  rw [new_H] at this
  exact this
end Go.Proofs.YtohngifmbnlmmaaDoor
