/- Who can be come to by steps, one by one, in plain Lean. -/
import Derived.Test.YthbiaojefmdcmaaRelP
import Derived.Test.YthbiaojefmdcmaaTellsP
namespace Go.Proofs.Ythbiaojefmdcmaa

/-- How many below n are not yet marked. -/
def unN (S : Nat) : Nat → Nat
  | 0 => 0
  | b + 1 => unN S b + (if S.testBit b then 0 else 1)
theorem un_zero : ∀ n, unN 0 n = n
  | 0 => rfl
  | n + 1 => by unfold unN; rw [un_zero n, Nat.zero_testBit]; rfl
theorem un_with_out (S b : Nat) (hb : b < 64) : ∀ n, n ≤ b → unN (withI S b) n = unN S n
  | 0, _ => rfl
  | n + 1, h => by
    unfold unN
    rw [un_with_out S b hb n (by omega), with_bit]
    have : ¬ ((b : Int) = (n : Int) ∧ n < 64) := by omega
    simp [this]
theorem un_with (S b : Nat) (hb : b < 64) (hS : S.testBit b = false) : ∀ n, b < n → n ≤ 64 → unN (withI S b) n + 1 = unN S n
  | 0, h, _ => by omega
  | n + 1, h, hn => by
    unfold unN
    rw [with_bit]
    by_cases he : b = n
    · subst he
      rw [un_with_out S b hb b (Nat.le_refl _), hS]
      have : ((b : Int) = (b : Int) ∧ b < 64) := ⟨rfl, hb⟩
      simp [this]
    · have ih := un_with S b hb hS n (by omega) (by omega)
      have : ¬ ((b : Int) = (n : Int) ∧ n < 64) := by omega
      simp only [this, decide_false, Bool.or_false]
      omega
/-- Between two numbers that are looked at. -/
structure Bfs0 (r : RelT) (F m : Nat) (xs : List Nat) (S : Nat) : Prop where
  lt : ∀ x ∈ xs, x < m
  src : ∀ x ∈ xs, x = F ∨ S.testBit x = true
  sLt : ∀ b, S.testBit b = true → b < m
  reach : ∀ b, S.testBit b = true → H (closeR r) F b = true
  done : ∀ x, (x = F ∨ S.testBit x = true) → x ∈ xs ∨ (∀ b, H r x b = true → S.testBit b = true)
  sz : xs.length + unN S m ≤ 41
/-- While a is looked at, those below k behind. -/
structure Bfs (r : RelT) (F m a k : Nat) (xs : List Nat) (S : Nat) : Prop where
  lt : ∀ x ∈ xs, x < m
  src : ∀ x ∈ xs, x = F ∨ S.testBit x = true
  sLt : ∀ b, S.testBit b = true → b < m
  reach : ∀ b, S.testBit b = true → H (closeR r) F b = true
  cur : a = F ∨ S.testBit a = true
  done : ∀ x, (x = F ∨ S.testBit x = true) → x ∈ xs ∨ (∀ b, H r x b = true → S.testBit b = true) ∨ (x = a ∧ ∀ b, b < k → H r x b = true → S.testBit b = true)
  sz : xs.length + unN S m ≤ 41
theorem Bfs0.start (r : RelT) (F m : Nat) (hF : F < m) (hm : m ≤ 40) : Bfs0 r F m [F] 0 := by
  refine ⟨fun x hx => ?_, fun x hx => ?_, fun b h => ?_, fun b h => ?_, fun x hx => ?_, ?_⟩
  · simp only [List.mem_cons, List.not_mem_nil, or_false] at hx; omega
  · simp only [List.mem_cons, List.not_mem_nil, or_false] at hx; exact Or.inl hx
  · rw [Nat.zero_testBit] at h; cases h
  · rw [Nat.zero_testBit] at h; cases h
  · rcases hx with h | h
    · subst h; exact Or.inl (by simp)
    · rw [Nat.zero_testBit] at h; cases h
  · rw [un_zero]; simp; omega
theorem Bfs0.pop {r : RelT} {F m a : Nat} {xs : List Nat} {S : Nat} (h : Bfs0 r F m (a :: xs) S) : Bfs r F m a 0 xs S := by
  refine ⟨fun x hx => h.lt x (by simp [hx]), fun x hx => h.src x (by simp [hx]), h.sLt, h.reach, h.src a (by simp), fun x hx => ?_, by have := h.sz; simp at this; omega⟩
  rcases h.done x hx with hd | hd
  · simp only [List.mem_cons] at hd
    rcases hd with rfl | hd
    · exact Or.inr (Or.inr ⟨rfl, fun b hb => by omega⟩)
    · exact Or.inl hd
  · exact Or.inr (Or.inl hd)
theorem Bfs.skip {r : RelT} {F m a k : Nat} {xs : List Nat} {S : Nat} (h : Bfs r F m a k xs S) (hk : H r a k = true → S.testBit k = true) : Bfs r F m a (k + 1) xs S := by
  refine ⟨h.lt, h.src, h.sLt, h.reach, h.cur, fun x hx => ?_, h.sz⟩
  rcases h.done x hx with hd | hd | ⟨rfl, hd⟩
  · exact Or.inl hd
  · exact Or.inr (Or.inl hd)
  · refine Or.inr (Or.inr ⟨rfl, fun b hb hH => ?_⟩)
    rcases Nat.lt_or_ge b k with h1 | h1
    · exact hd b h1 hH
    · obtain rfl : b = k := by omega
      exact hk hH
theorem with_mono (S b x : Nat) (h : S.testBit x = true) : (withI S b).testBit x = true := by rw [with_bit, h]; rfl
theorem with_self (S b : Nat) (hb : b < 64) : (withI S b).testBit b = true := by rw [with_bit]; have : ((b : Int) = (b : Int) ∧ b < 64) := ⟨rfl, hb⟩; simp [this]
theorem with_inv (S b x : Nat) (h : (withI S b).testBit x = true) : S.testBit x = true ∨ x = b := by
  rw [with_bit] at h
  simp only [Bool.or_eq_true, decide_eq_true_eq] at h
  rcases h with h | h
  · exact Or.inl h
  · exact Or.inr (by omega)
theorem Bfs.push {r : RelT} (hr : Wf r) {F m a k : Nat} {xs : List Nat} {S : Nat} (h : Bfs r F m a k xs S) (hm : m ≤ 40) (hkm : k < m) (hk : H r a k = true) (hS : S.testBit k = false) : Bfs r F m a (k + 1) (xs ++ [k]) (withI S k) := by
  have hc : H (closeR r) F k = true := by
    rcases h.cur with rfl | hcur
    · exact close_has hr _ _ hk
    · exact close_trans hr F a k (h.reach a hcur) (close_has hr _ _ hk)
  refine ⟨fun x hx => ?_, fun x hx => ?_, fun b hb => ?_, fun b hb => ?_, ?_, fun x hx => ?_, ?_⟩
  · simp only [List.mem_append, List.mem_cons, List.not_mem_nil, or_false] at hx
    rcases hx with hx | rfl
    · exact h.lt x hx
    · exact hkm
  · simp only [List.mem_append, List.mem_cons, List.not_mem_nil, or_false] at hx
    rcases hx with hx | rfl
    · exact (h.src x hx).imp id (with_mono S k x)
    · exact Or.inr (with_self S x (by omega))
  · rcases with_inv S k b hb with hb | rfl
    · exact h.sLt b hb
    · exact hkm
  · rcases with_inv S k b hb with hb | rfl
    · exact h.reach b hb
    · exact hc
  · exact h.cur.imp id (with_mono S k a)
  · have hx' : (x = F ∨ S.testBit x = true) ∨ x = k := by
      rcases hx with hx | hx
      · exact Or.inl (Or.inl hx)
      · rcases with_inv S k x hx with hx | hx
        · exact Or.inl (Or.inr hx)
        · exact Or.inr hx
    rcases hx' with hx' | rfl
    · rcases h.done x hx' with hd | hd | ⟨rfl, hd⟩
      · exact Or.inl (by simp [hd])
      · exact Or.inr (Or.inl fun b hb => with_mono S k b (hd b hb))
      · refine Or.inr (Or.inr ⟨rfl, fun b hb hH => ?_⟩)
        rcases Nat.lt_or_ge b k with h1 | h1
        · exact with_mono S k b (hd b h1 hH)
        · obtain rfl : b = k := by omega
          exact with_self S b (by omega)
    · exact Or.inl (by simp)
  · have := un_with S k (by omega) hS m hkm (by omega)
    have := h.sz
    simp
    omega
theorem Bfs.shut {r : RelT} (hr : Wf r) {F m a : Nat} {xs : List Nat} {S : Nat} (hn : r.n = m) (h : Bfs r F m a m xs S) : Bfs0 r F m xs S := by
  refine ⟨h.lt, h.src, h.sLt, h.reach, fun x hx => ?_, h.sz⟩
  rcases h.done x hx with hd | hd | ⟨rfl, hd⟩
  · exact Or.inl hd
  · exact Or.inr hd
  · exact Or.inr fun b hb => hd b (by have := hr.b _ _ hb; omega) hb
theorem Bfs0.all {r : RelT} (hr : Wf r) {F m S : Nat} (h : Bfs0 r F m [] S) (b : Nat) : S.testBit b = H (closeR r) F b := by
  rw [Bool.eq_iff_iff]
  constructor
  · exact h.reach b
  · intro hc
    have hd : ∀ x, (x = F ∨ S.testBit x = true) → ∀ b, H r x b = true → S.testBit b = true := fun x hx => by
      rcases h.done x hx with h | h
      · simp at h
      · exact h
    have := close_least hr (fun x y => (x = F → S.testBit y = true) ∧ (S.testBit x = true → S.testBit y = true))
      (fun a b c h1 h2 => ⟨fun h => h2.2 (h1.1 h), fun h => h2.2 (h1.2 h)⟩) (fun a b hab => ⟨fun h => hd a (Or.inl h) b hab, fun h => hd a (Or.inr h) b hab⟩) F b hc
    exact this.1 rfl
/-- A row has no more numbers than there are. -/
theorem cnt_row {r : RelT} (hr : Wf r) (a : Nat) : cnt64 (r.f a) ≤ r.n := by
  have key : ∀ d, r.n + d ≤ 64 → pre (r.f a) (r.n + d) = pre (r.f a) r.n := by
    intro d
    induction d with
    | zero => intro _; rfl
    | succ d ih =>
      intro hd
      rw [← Nat.add_assoc, pre_step, ih (by omega), show (r.f a).testBit (r.n + d) = H r a (r.n + d) from rfl, hr.off (Or.inr (by omega))]
      simp
  have e := key (64 - r.n) (by have := hr.n; omega)
  rw [show r.n + (64 - r.n) = 64 by have := hr.n; omega, pre_all] at e
  unfold cnt64
  rw [e]
  exact pre_len _ _
end Go.Proofs.Ythbiaojefmdcmaa
