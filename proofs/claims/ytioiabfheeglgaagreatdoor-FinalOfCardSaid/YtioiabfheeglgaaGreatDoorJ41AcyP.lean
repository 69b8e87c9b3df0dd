/- What each execution that the document's All tells is like, in plain Lean. Of no memory. -/
import Derived.Test.YtioiabfheeglgaaGreatDoorJ40RaX
import Derived.Test.YtioiabfheeglgaaGreatDoorJ33RelP
namespace Go.Proofs.YtioiabfheeglgaaGreatDoor
open Go.RowKit

theorem mem_put {L : List ExT} {c x : ExT} (h : x ∈ putP L c) : x ∈ L ∨ x = c := by
 unfold putP at h
 split at h
 ·
  exact Or.inl h
 ·
  simp only [List.mem_append, List.mem_cons] at h
  rcases h with h | h | h
  ·
   exact Or.inl (List.mem_of_mem_take h)
  ·
   exact Or.inr h
  ·
   exact Or.inl (List.mem_of_mem_drop h)
theorem mem_run {most : Nat} : ∀ {C L L' : List ExT}, runP most L C = some L' → ∀ x ∈ L', x ∈ L ∨ x ∈ C
 | [], L, L', h, x, hx => by rw [runP] at h; rw [Option.some.inj h]; exact Or.inl hx
 | c :: C, L, L', h, x, hx => by
  rw [runP] at h
  split at h
  ·
   rcases mem_run h x hx with h1 | h1
   ·
    rcases mem_put h1 with h2 | h2
    ·
     exact Or.inl h2
    ·
     exact Or.inr (by rw [h2]; exact List.mem_cons_self ..)
   ·
    exact Or.inr (List.mem_cons_of_mem _ h1)
  ·
   cases h
theorem mem_pre {G : Nat → List ExT} {n : Nat} {x : ExT} (h : x ∈ preL G n) : ∃ i, i < n ∧ x ∈ G i := by
 unfold preL at h
 simp only [List.mem_flatMap, List.mem_range] at h
 exact h
theorem cons_eraseIdx {l : List Int} {i : Nat} (h : i < l.length) : (l[i] :: l.eraseIdx i).Perm l := by
 rw [List.eraseIdx_eq_take_drop_succ]
 refine List.perm_middle.symm.trans ?_
 rw [← List.drop_eq_getElem_cons h, List.take_append_drop]
/-- Rows that go on are what they were and then what was left, in some order. -/
theorem mem_perm : ∀ (n : Nat) (row left r : List Int), left.length = n → r ∈ permP n row left → ∃ p, r = row ++ p ∧ p.Perm left
 | 0, row, left, r, hl, h => by
  rw [permP] at h
  simp only [List.mem_singleton] at h
  obtain rfl := List.eq_nil_of_length_eq_zero hl
  exact ⟨[], by rw [h, List.append_nil], List.Perm.refl _⟩
 | n + 1, row, left, r, hl, h => by
  rw [permP] at h
  simp only [List.mem_flatMap, List.mem_range] at h
  obtain ⟨i, hi, h⟩ := h
  obtain ⟨p, hp, hq⟩ := mem_perm n _ _ r (by rw [List.length_eraseIdx, if_pos (by omega)]; omega) h
  refine ⟨left.getD i 0 :: p, by rw [hp]; simp, ?_⟩
  have hg : left.getD i 0 = left[i]'(by omega) := by rw [List.getD_eq_getElem?_getD, List.getElem?_eq_getElem (by omega)]; rfl
  rw [hg]
  exact (List.Perm.cons _ hq).trans (cons_eraseIdx (by omega))
/-- Of each location the write of the beginning, and then the others in some order. -/
def CoOk (E : List EvT) (c : Nat) (r : List Int) : Prop := ∃ p, r = (c : Int) :: p ∧ p.Perm (wleftP E c E.length)
theorem mem_ord : ∀ (m : Nat) (y x : ExT), x ∈ ordP m y → ∃ rows : List (List Int), rows.length = m ∧ x = ⟨y.evs, y.rf, y.co ++ rows⟩ ∧ ∀ j r, rows[j]? = some r → CoOk y.evs (y.co.length + j) r
 | 0, y, x, h => by
  rw [ordP] at h
  simp only [List.mem_singleton] at h
  exact ⟨[], rfl, by rw [h, List.append_nil], fun j r hj => by simp at hj⟩
 | m + 1, y, x, h => by
  rw [ordP] at h
  simp only [List.mem_flatMap] at h
  obtain ⟨r, hr, h⟩ := h
  obtain ⟨p, hp, hq⟩ := mem_perm _ _ _ r rfl hr
  obtain ⟨rows, h1, h2, h3⟩ := mem_ord m _ x h
  refine ⟨r :: rows, by simp [h1], by rw [h2]; simp, fun j r' hj => ?_⟩
  cases j with
  | zero =>
   simp only [List.getElem?_cons_zero, Option.some.injEq] at hj
   subst hj
   exact ⟨p, by rw [hp]; rfl, hq⟩
  | succ j =>
   simp only [List.getElem?_cons_succ] at hj
   have := h3 j r' hj
   simp only [List.length_append, List.length_cons, List.length_nil] at this
   rw [show y.co.length + (j + 1) = y.co.length + (0 + 1) + j by omega]
   exact this
/-- A source that an event may have. -/
def RfOk (E : List EvT) (i : Nat) (f : Int) : Prop := if rdsB (E.getD i evZ).k then ∃ k : Nat, f = (k : Int) ∧ k < E.length ∧ k ≠ i ∧ wrsB (E.getD k evZ).k = true ∧ (E.getD k evZ).l = (E.getD i evZ).l ∧ (E.getD k evZ).w = (E.getD i evZ).r else f = -1
theorem mem_src (locs : Nat) : ∀ (n : Nat) (E : List EvT) (F : List Int) (x : ExT), E.length = F.length + n → x ∈ srcP locs n ⟨E, F, []⟩ → ∃ F' : List Int, F'.length = n ∧ (∀ j f, F'[j]? = some f → RfOk E (F.length + j) f) ∧ acycR (relP ⟨E, F ++ F', []⟩) = true ∧ x ∈ ordP locs ⟨E, F ++ F', []⟩
 | 0, E, F, x, hl, h => by
  rw [srcP] at h
  split at h
  ·
   rename_i ha
   exact ⟨[], rfl, fun j f hj => by simp at hj, by rw [List.append_nil]; exact ha, by rw [List.append_nil]; exact h⟩
  ·
   simp at h
 | n + 1, E, F, x, hl, h => by
  have key : ∀ y : Int, RfOk E F.length y → x ∈ srcP locs n ⟨E, F ++ [y], []⟩ → ∃ F' : List Int, F'.length = n + 1 ∧ (∀ j f, F'[j]? = some f → RfOk E (F.length + j) f) ∧ acycR (relP ⟨E, F ++ F', []⟩) = true ∧ x ∈ ordP locs ⟨E, F ++ F', []⟩ := fun y hy h => by
   obtain ⟨F', h1, h2, h3, h4⟩ := mem_src locs n E (F ++ [y]) x (by simp; omega) h
   rw [List.append_assoc] at h3 h4
   refine ⟨y :: F', by simp [h1], fun j f hj => ?_, h3, h4⟩
   cases j with
   | zero =>
    simp only [List.getElem?_cons_zero, Option.some.injEq] at hj
    subst hj
    exact hy
   | succ j =>
    simp only [List.getElem?_cons_succ] at hj
    have := h2 j f hj
    rw [List.length_append, List.length_singleton] at this
    rw [show F.length + (j + 1) = F.length + 1 + j by omega]
    exact this
  rw [srcP] at h
  simp only at h
  split at h
  ·
   rename_i hr
   obtain ⟨k, hk, h⟩ := mem_pre h
   split at h
   ·
    rename_i hs
    refine key k ?_ h
    unfold srcB at hs
    simp only [Bool.and_eq_true, bne_iff_ne, beq_iff_eq, ne_eq] at hs
    unfold RfOk
    rw [if_pos hr]
    exact ⟨k, rfl, hk, fun e => hs.1.1.1 (by rw [e]), hs.1.1.2, hs.1.2, hs.2⟩
   ·
    simp at h
  ·
   rename_i hr
   refine key (-1) ?_ h
   unfold RfOk
   rw [if_neg hr]
theorem mem_ch (locs : Nat) (UN : Nat → List (List EvT)) : ∀ (m t : Nat) (E : List EvT) (x : ExT), x ∈ chP locs UN m t E → ∃ rows : List (List EvT), rows.length = m ∧ (∀ j r, rows[j]? = some r → r ∈ UN (t + j)) ∧ x ∈ srcP locs (E ++ rows.flatten).length ⟨E ++ rows.flatten, [], []⟩
 | 0, t, E, x, h => by
  rw [chP] at h
  exact ⟨[], rfl, fun j r hj => by simp at hj, by simpa using h⟩
 | m + 1, t, E, x, h => by
  rw [chP] at h
  obtain ⟨i, hi, h⟩ := mem_pre h
  have hg : (UN t).getD i [] = (UN t)[i] := by rw [List.getD_eq_getElem?_getD, List.getElem?_eq_getElem hi]; rfl
  simp only [hg] at h
  obtain ⟨rows, h1, h2, h3⟩ := mem_ch locs UN m (t + 1) _ x h
  refine ⟨(UN t)[i] :: rows, by simp [h1], fun j r hj => ?_, by rw [List.flatten_cons, ← List.append_assoc]; exact h3⟩
  cases j with
  | zero =>
   simp only [List.getElem?_cons_zero, Option.some.injEq] at hj
   subst hj
   exact List.getElem_mem hi
  | succ j =>
   simp only [List.getElem?_cons_succ] at hj
   have := h2 j r hj
   rw [show t + (j + 1) = t + 1 + j by omega]
   exact this
/-- Each row is an unfolding that is whole. -/
theorem th_whole (L : List InsT) (t : Int) (V : Nat → List Int) (most : Nat) : ∀ (n : Nat) (rs : List Int) (out : List (List EvT)), (∀ r ∈ out, ∃ q, r = (unfP L t q).1 ∧ (unfP L t q).2.2 = false) → ∀ r ∈ thP L t V most n rs out, ∃ q, r = (unfP L t q).1 ∧ (unfP L t q).2.2 = false
 | 0, _, _, h => h
 | n + 1, rs, out, h => by
  rw [thP]
  split
  ·
   exact h
  ·
   split
   ·
    have : ∀ (Y : List Int) (o : List (List EvT)), (∀ r ∈ o, ∃ q, r = (unfP L t q).1 ∧ (unfP L t q).2.2 = false) → ∀ r ∈ Y.foldl (fun o y => thP L t V most n (rs ++ [y]) o) o, ∃ q, r = (unfP L t q).1 ∧ (unfP L t q).2.2 = false := by
     intro Y
     induction Y with
     | nil => exact fun o h => h
     | cons y Y ih => exact fun o h => ih _ (th_whole L t V most n (rs ++ [y]) o h)
    exact this _ out h
   ·
    rename_i hm
    intro r hr
    simp only [List.mem_append, List.mem_singleton] at hr
    rcases hr with hr | rfl
    ·
     exact h r hr
    ·
     exact ⟨rs, rfl, by simpa using hm⟩
/-- A candidate, as the document's All tells it. -/
structure OkX (m : Nat) (IN : List Int) (LL : List (List InsT)) (x : ExT) : Prop where
 evs : ∃ rows : List (List EvT), rows.length = LL.length ∧ x.evs = initsP m IN ++ rows.flatten ∧ ∀ (t : Nat) r, rows[t]? = some r → ∃ q, r = (unfP (threadP LL t) t q).1 ∧ (unfP (threadP LL t) t q).2.2 = false
 rfl' : x.rf.length = x.evs.length
 rf : ∀ i f, x.rf[i]? = some f → RfOk x.evs i f
 acyc : acycR (relP ⟨x.evs, x.rf, []⟩) = true
 col : x.co.length = m
 co : ∀ c r, x.co[c]? = some r → CoOk x.evs c r
theorem all_ok {m : Nat} {IN : List Int} {LL : List (List InsT)} {most : Nat} {L : List ExT} (h : AllP m IN LL most L) : ∀ x ∈ L, OkX m IN LL x := by
 obtain ⟨V, UN, hf, hr⟩ := h
 intro x hx
 rcases mem_run hr x hx with h | h
 ·
  simp at h
 ·
  obtain ⟨rows, h1, h2, h3⟩ := mem_ch m UN _ _ _ x h
  obtain ⟨F, f1, f2, f3, f4⟩ := mem_src m _ _ _ x (by simp) h3
  obtain ⟨CO, c1, c2, c3⟩ := mem_ord m _ x f4
  simp only [List.nil_append, List.length_nil, Nat.zero_add] at f2 f3 c2 c3
  subst c2
  refine ⟨⟨rows, h1, rfl, fun t r ht => ?_⟩, f1, f2, f3, c1, c3⟩
  have hm := h2 t r ht
  rw [Nat.zero_add] at hm
  have hlt : t < LL.length := by rw [← h1]; exact (List.getElem?_eq_some_iff.1 ht).1
  rw [hf.1 t hlt] at hm
  exact th_whole _ _ _ _ _ _ _ (fun r hr => by simp at hr) r hm
end Go.Proofs.YtioiabfheeglgaaGreatDoor

namespace Go.Proofs.YtioiabfheeglgaaGreatDoor
open Go.RowKit

theorem add_keeps {r : RelT} (hr : Wf r) (a b : Int) {x y : Nat} (h : H r x y = true) : H (addR r a b) x y = true := by
 rw [add_H hr, h]
 rfl
theorem add_new {r : RelT} (hr : Wf r) {a b : Nat} (ha : a < r.n) (hb : b < r.n) : H (addR r a b) a b = true := by
 rw [add_H hr]
 unfold overR
 simp [ha, hb]
theorem poIn_n (x : EvT) (a : Nat) : ∀ (L : List EvT) (b : Nat) (r : RelT), (poIn x a b r L).n = r.n
 | [], _, _ => rfl
 | y :: L, b, r => by
  unfold poIn
  rw [poIn_n x a L]
  split
  ·
   rw [add_n]
  ·
   rfl
theorem poOut_n (E : List EvT) : ∀ (L : List EvT) (a : Nat) (r : RelT), (poOut E a r L).n = r.n
 | [], _, _ => rfl
 | x :: L, a, r => by
  unfold poOut
  rw [poOut_n E L, poIn_n]
theorem poIn_keeps (x : EvT) (a : Nat) : ∀ (L : List EvT) (b : Nat) (r : RelT), Wf r → ∀ {u v : Nat}, H r u v = true → H (poIn x a b r L) u v = true
 | [], _, _, _, _, _, h => h
 | y :: L, b, r, hr, u, v, h => by
  unfold poIn
  split
  ·
   exact poIn_keeps x a L _ _ (add_wf hr a b) (add_keeps hr a b h)
  ·
   exact poIn_keeps x a L _ _ hr h
theorem poIn_has (x : EvT) (a : Nat) : ∀ (L : List EvT) (b : Nat) (r : RelT), Wf r → a < r.n → b + L.length ≤ r.n → ∀ {j : Nat} {y : EvT}, L[j]? = some y → aheadB x y = true → H (poIn x a b r L) a (b + j) = true
 | [], _, _, _, _, _, _, _, h, _ => by simp at h
 | z :: L, b, r, hr, ha, hn, j, y, h, hb => by
  rw [List.length_cons] at hn
  unfold poIn
  cases j with
  | zero =>
   simp only [List.getElem?_cons_zero, Option.some.injEq] at h
   subst h
   rw [if_pos hb]
   exact poIn_keeps x a L _ _ (add_wf hr a b) (add_new hr ha (by omega))
  | succ j =>
   simp only [List.getElem?_cons_succ] at h
   rw [show b + (j + 1) = b + 1 + j by omega]
   split
   ·
    exact poIn_has x a L _ _ (add_wf hr a b) (by rw [add_n]; exact ha) (by rw [add_n]; omega) h hb
   ·
    exact poIn_has x a L _ _ hr ha (by omega) h hb
theorem poOut_keeps (E : List EvT) : ∀ (L : List EvT) (a : Nat) (r : RelT), Wf r → ∀ {u v : Nat}, H r u v = true → H (poOut E a r L) u v = true
 | [], _, _, _, _, _, h => h
 | x :: L, a, r, hr, _, _, h => by
  unfold poOut
  exact poOut_keeps E L _ _ (poIn_wf x a E 0 r hr) (poIn_keeps x a E 0 r hr h)
theorem poOut_has (E : List EvT) : ∀ (L : List EvT) (a : Nat) (r : RelT), Wf r → a + L.length ≤ r.n → E.length ≤ r.n → ∀ {i j : Nat} {x y : EvT}, L[i]? = some x → E[j]? = some y → aheadB x y = true → H (poOut E a r L) (a + i) j = true
 | [], _, _, _, _, _, _, _, _, _, h, _, _ => by simp at h
 | z :: L, a, r, hr, hn, hE, i, j, x, y, h, hj, hb => by
  rw [List.length_cons] at hn
  unfold poOut
  cases i with
  | zero =>
   simp only [List.getElem?_cons_zero, Option.some.injEq] at h
   subst h
   have := poIn_has z a E 0 r hr (by omega) (by omega) hj hb
   rw [Nat.zero_add] at this
   exact poOut_keeps E L _ _ (poIn_wf z a E 0 r hr) this
  | succ i =>
   simp only [List.getElem?_cons_succ] at h
   rw [show a + (i + 1) = a + 1 + i by omega]
   exact poOut_has E L _ _ (poIn_wf z a E 0 r hr) (by rw [poIn_n]; omega) (by rw [poIn_n]; exact hE) h hj hb
theorem po_has {E : List EvT} (hE : E.length ≤ 64) {i j : Nat} {x y : EvT} (hi : E[i]? = some x) (hj : E[j]? = some y) (hb : aheadB x y = true) : H (poR E) i j = true := by
 have hn : (newR E.length).n = E.length := by rw [new_n]; omega
 have := poOut_has E E 0 (newR E.length) (new_wf _) (by rw [hn]; omega) (by rw [hn]; exact Nat.le_refl _) hi hj hb
 rw [Nat.zero_add] at this
 exact this
theorem rfR_n : ∀ (F : List Int) (k : Nat) (r : RelT), (rfR k r F).n = r.n
 | [], _, _ => rfl
 | f :: F, k, r => by
  unfold rfR
  rw [rfR_n F]
  split
  ·
   rw [add_n]
  ·
   rfl
theorem rfR_wf : ∀ (F : List Int) (k : Nat) (r : RelT), Wf r → Wf (rfR k r F)
 | [], _, _, h => h
 | f :: F, k, r, h => by
  unfold rfR
  split
  ·
   exact rfR_wf F _ _ (add_wf h f k)
  ·
   exact rfR_wf F _ _ h
theorem rfR_keeps : ∀ (F : List Int) (k : Nat) (r : RelT), Wf r → ∀ {u v : Nat}, H r u v = true → H (rfR k r F) u v = true
 | [], _, _, _, _, _, h => h
 | f :: F, k, r, hr, _, _, h => by
  unfold rfR
  split
  ·
   exact rfR_keeps F _ _ (add_wf hr f k) (add_keeps hr f k h)
  ·
   exact rfR_keeps F _ _ hr h
theorem rfR_has : ∀ (F : List Int) (k : Nat) (r : RelT), Wf r → k + F.length ≤ r.n → ∀ {j f : Nat}, F[j]? = some (f : Int) → f < r.n → H (rfR k r F) f (k + j) = true
 | [], _, _, _, _, _, _, h, _ => by simp at h
 | g :: F, k, r, hr, hn, j, f, h, hf => by
  rw [List.length_cons] at hn
  unfold rfR
  cases j with
  | zero =>
   simp only [List.getElem?_cons_zero, Option.some.injEq] at h
   subst h
   rw [if_pos (Int.natCast_nonneg f)]
   exact rfR_keeps F _ _ (add_wf hr f k) (add_new hr hf (by omega))
  | succ j =>
   simp only [List.getElem?_cons_succ] at h
   rw [show k + (j + 1) = k + 1 + j by omega]
   split
   ·
    exact rfR_has F _ _ (add_wf hr g k) (by rw [add_n]; omega) h (by rw [add_n]; exact hf)
   ·
    exact rfR_has F _ _ hr (by omega) h hf
theorem relP_wf (x : ExT) : Wf (relP x) := rfR_wf _ _ _ (po_wf _)
theorem relP_n {x : ExT} (h : x.evs.length ≤ 64) : (relP x).n = x.evs.length := by
 unfold relP
 rw [rfR_n, po_n _ h]
theorem relP_po {x : ExT} (h : x.evs.length ≤ 64) {i j : Nat} {e f : EvT} (hi : x.evs[i]? = some e) (hj : x.evs[j]? = some f) (hb : aheadB e f = true) : H (relP x) i j = true :=
 rfR_keeps _ _ _ (po_wf _) (po_has h hi hj hb)
theorem relP_rf {x : ExT} (h : x.evs.length ≤ 64) (hl : x.rf.length ≤ x.evs.length) {j f : Nat} (hj : x.rf[j]? = some (f : Int)) (hf : f < x.evs.length) : H (relP x) f j = true := by
 have := rfR_has x.rf 0 (poR x.evs) (po_wf _) (by rw [po_n _ h]; omega) hj (by rw [po_n _ h]; exact hf)
 rw [Nat.zero_add] at this
 exact this
theorem countP_lt {p q : Nat → Bool} (h : ∀ k, p k = true → q k = true) : ∀ (L : List Nat) (j : Nat), j ∈ L → q j = true → p j = false → L.countP p < L.countP q
 | [], _, hj, _, _ => absurd hj List.not_mem_nil
 | a :: L, j, hj, hq, hp => by
  rw [List.countP_cons, List.countP_cons]
  have hle : L.countP p ≤ L.countP q := List.countP_mono_left (fun x _ hx => h x hx)
  rcases List.mem_cons.1 hj with rfl | hm
  ·
   rw [hq, hp]
   simp
   omega
  ·
   have := countP_lt h L j hm hq hp
   cases ha : p a with
   | true => rw [h a ha]; simp; omega
   | false =>
    simp only [Bool.false_eq_true, if_false]
    split <;> omega
/-- Induction along an acyclic relation. -/
theorem acyc_ind {r : RelT} (hr : Wf r) (ha : acycR r = true) (P : Nat → Prop) (step : ∀ i, i < r.n → (∀ j, j < r.n → H r j i = true → P j) → P i) : ∀ i, i < r.n → P i := by
 have hac := (acyc_iff hr).1 ha
 have key : ∀ (c i : Nat), i < r.n → (List.range r.n).countP (fun k => H (closeR r) k i) < c → P i := by
  intro c
  induction c with
  | zero => intro i _ h; exact absurd h (Nat.not_lt_zero _)
  | succ c ih =>
   intro i hi hc
   refine step i hi (fun j hj hji => ih j hj ?_)
   have h1 := close_has hr j i hji
   have := countP_lt (p := fun k => H (closeR r) k j) (q := fun k => H (closeR r) k i) (fun k hk => close_trans hr k j i hk h1) (List.range r.n) j (List.mem_range.2 hj) h1 (hac j hj)
   omega
 exact fun i hi => key _ i hi (Nat.lt_succ_self _)
end Go.Proofs.YtioiabfheeglgaaGreatDoor
