/- The verifier's own look whether a row is an order: jacquardlaw9.keeps, walked. -/
import Derived.Test.YtohngifmbnlmmaaDoorOrdF
namespace Go.Proofs.YtohngifmbnlmmaaDoor
open Go.RowKit

def atL (f : Nat → Int) : List Value := (List.range 64).map (fun i => .int .i64 (f i))
def atA (f : Nat → Int) : Array Value := (atL f).toArray
theorem at_zero : atA (fun _ => 0) = #[.int .i64 0, .int .i64 0, .int .i64 0, .int .i64 0, .int .i64 0, .int .i64 0, .int .i64 0, .int .i64 0, .int .i64 0, .int .i64 0, .int .i64 0, .int .i64 0, .int .i64 0, .int .i64 0, .int .i64 0, .int .i64 0, .int .i64 0, .int .i64 0, .int .i64 0, .int .i64 0, .int .i64 0, .int .i64 0, .int .i64 0, .int .i64 0, .int .i64 0, .int .i64 0, .int .i64 0, .int .i64 0, .int .i64 0, .int .i64 0, .int .i64 0, .int .i64 0, .int .i64 0, .int .i64 0, .int .i64 0, .int .i64 0, .int .i64 0, .int .i64 0, .int .i64 0, .int .i64 0, .int .i64 0, .int .i64 0, .int .i64 0, .int .i64 0, .int .i64 0, .int .i64 0, .int .i64 0, .int .i64 0, .int .i64 0, .int .i64 0, .int .i64 0, .int .i64 0, .int .i64 0, .int .i64 0, .int .i64 0, .int .i64 0, .int .i64 0, .int .i64 0, .int .i64 0, .int .i64 0, .int .i64 0, .int .i64 0, .int .i64 0, .int .i64 0] := by kernel_rfl
theorem at_new (w : World) (T : TypeId) : Bk (w.alloc (.cells #[.int .i64 0, .int .i64 0, .int .i64 0, .int .i64 0, .int .i64 0, .int .i64 0, .int .i64 0, .int .i64 0, .int .i64 0, .int .i64 0, .int .i64 0, .int .i64 0, .int .i64 0, .int .i64 0, .int .i64 0, .int .i64 0, .int .i64 0, .int .i64 0, .int .i64 0, .int .i64 0, .int .i64 0, .int .i64 0, .int .i64 0, .int .i64 0, .int .i64 0, .int .i64 0, .int .i64 0, .int .i64 0, .int .i64 0, .int .i64 0, .int .i64 0, .int .i64 0, .int .i64 0, .int .i64 0, .int .i64 0, .int .i64 0, .int .i64 0, .int .i64 0, .int .i64 0, .int .i64 0, .int .i64 0, .int .i64 0, .int .i64 0, .int .i64 0, .int .i64 0, .int .i64 0, .int .i64 0, .int .i64 0, .int .i64 0, .int .i64 0, .int .i64 0, .int .i64 0, .int .i64 0, .int .i64 0, .int .i64 0, .int .i64 0, .int .i64 0, .int .i64 0, .int .i64 0, .int .i64 0, .int .i64 0, .int .i64 0, .int .i64 0, .int .i64 0] T)) w.heap.size (atA (fun _ => 0)) := by rw [at_zero]; exact Bk.new w _ T
theorem at_at (f : Nat → Int) {i : Nat} (h : i < 64) : (atA f)[i]? = some (.int .i64 (f i)) := by
  unfold atA atL
  rw [List.getElem?_toArray, List.getElem?_map, List.getElem?_range h]
  rfl
def updI (f : Nat → Int) (i : Nat) (x : Int) : Nat → Int := fun j => if j = i then x else f j
theorem at_set (f : Nat → Int) (i : Nat) (x : Int) : (atL f).set i (.int .i64 x) = atL (updI f i x) := by
  unfold atL
  apply List.ext_getElem?
  intro j
  rw [List.getElem?_set, List.getElem?_map, List.getElem?_map]
  by_cases hij : i = j
  · subst hij
    rw [if_pos rfl]
    by_cases h : i < 64
    · rw [if_pos (by simpa using h), List.getElem?_range h]
      simp [updI]
    · rw [if_neg (by simpa using h), List.getElem?_eq_none (by simpa using h)]
      rfl
  · rw [if_neg hij]
    by_cases hj : j < 64
    · rw [List.getElem?_range hj]
      have : ¬ j = i := fun h => hij h.symm
      simp [updI, this]
    · rw [List.getElem?_eq_none (by simpa using hj)]
      rfl
theorem Bk.atSet {w : World} {N : Nat} {f : Nat → Int} (h : Bk w N (atA f)) (i : Nat) (x : Int) : Bk (w.setCell ⟨N, i, none⟩ (.int .i64 x)) N (atA (updI f i x)) := by
  have := Bk.put (cs := atL f) h i (.int .i64 x)
  rw [at_set] at this
  exact this
def lessF (i : Nat) : Nat → Int := fun j => if j < i then -1 else 0
theorem lessF_step (i : Nat) : updI (lessF i) i (-1) = lessF (i + 1) := by
  funext j
  unfold updI lessF
  by_cases h : j = i
  · subst h; simp
  · by_cases h2 : j < i
    · have : j < i + 1 := by omega
      simp [h, h2, this]
    · have : ¬ j < i + 1 := by omega
      simp [h, h2, this]
/-- Who stands where, or a number that may not be. -/
def placeD (n : Nat) : List Int → Nat → (Nat → Int) → Option (Nat → Int)
  | [], _, f => some f
  | x :: L, i, f => if x < 0 ∨ (n : Int) ≤ x ∨ 0 ≤ f x.toNat then none else placeD n L (i + 1) (updI f x.toNat i)
def pairOk (r : RelT) (f : Nat → Int) (a b : Nat) : Bool := !(H r a b && decide (f b ≤ f a))
def pairsTo (r : RelT) (f : Nat → Int) (a : Nat) : Nat → Bool
  | 0 => true
  | b + 1 => pairsTo r f a b && pairOk r f a b
def rowsTo (r : RelT) (f : Nat → Int) (n : Nat) : Nat → Bool
  | 0 => true
  | a + 1 => rowsTo r f n a && pairsTo r f a n
def placedOk (r : RelT) : Option (Nat → Int) → Bool
  | none => false
  | some f => rowsTo r f r.n r.n
def keepD (r : RelT) (L : List Int) : Bool := decide (L.length = r.n) && placedOk r (placeD r.n L 0 (lessF 64))
theorem pairsTo_no (r : RelT) (f : Nat → Int) (a b : Nat) (hb : pairOk r f a b = false) : ∀ n, b < n → pairsTo r f a n = false
  | 0, h => by omega
  | n + 1, h => by
    rw [pairsTo]
    by_cases he : b = n
    · subst he; rw [hb]; simp
    · rw [pairsTo_no r f a b hb n (by omega)]; rfl
theorem rowsTo_no (r : RelT) (f : Nat → Int) (n a : Nat) (ha : pairsTo r f a n = false) : ∀ m, a < m → rowsTo r f n m = false
  | 0, h => by omega
  | m + 1, h => by
    rw [rowsTo]
    by_cases he : a = m
    · subst he; rw [ha]; simp
    · rw [rowsTo_no r f n a ha m (by omega)]; rfl
set_option maxHeartbeats 8000000 in
set_option maxRecDepth 8000 in
theorem jkeeps_is (r : RelT) (hr : Wf r) (L : List Int) (v : Value) (w : World) (hL : Rd intC 1 w v L) :
    Calls Tryd.prog 11 #[.agg (relA r), v] w fun e w' => e = .returned (.bool (keepD r L)) ∧ On w w' := by
  obtain ⟨la, lc, rfl, hlc, hlm⟩ := hL.slice
  have h1 := Bk.new w (relA r) 27
  have k0 := (On.refl w).alloc (.cells (relA r) 27)
  have hn := hr.n
  have hN := fun W => n_is r W
  have hH := fun (a b : Nat) W => rhas_is r hr.wr a b W
  have HH : Hid (∀ (a b : Nat), hasR r a b = H r a b) := fun a b => has_nat2 hr a b
  have HL : Hid (Rd intC 1 w (.slice la L.length lc) L) := hL
  obtain ⟨T, hT⟩ : ∃ T, T = keepD r L := ⟨_, rfl⟩
  rw [← hT]
  obtain ⟨n, hnn⟩ : ∃ n, n = r.n := ⟨_, rfl⟩
  rw [← hnn] at hN hn
  have HNN : Hid (n = r.n) := hnn
  clear hL hnn hr hlc
  by_cases hln : L.length = n
  · have HT : Hid (T = placedOk r (placeD n (L.drop 0) 0 (lessF 64))) := by
      show T = _
      rw [hT]
      unfold keepD
      rw [← HNN.out, hln]
      simp
    clear hT
    obtain ⟨len, hlen⟩ : ∃ len, len = L.length := ⟨_, rfl⟩
    rw [← hlen] at hln HL hlm ⊢
    have HLE : Hid (L.length = len) := hlen.symm
    clear hlen
    subst hln
    go_enter Tryd.func11, Tryd.ntmps11
    go_wp2_with (refine wpList_ld rfl rfl rfl h1 ?_)
    refine (hN _).mono ?_
    rintro _ w1 ⟨rfl, k1⟩
    have K1 := k0.trans k1
    have B1 := h1.on k1
    have hs1 := B1.lt
    obtain ⟨W2, hW2⟩ : ∃ W2, W2 = w1.alloc (.cells #[.int .i64 0, .int .i64 0, .int .i64 0, .int .i64 0, .int .i64 0, .int .i64 0, .int .i64 0, .int .i64 0, .int .i64 0, .int .i64 0, .int .i64 0, .int .i64 0, .int .i64 0, .int .i64 0, .int .i64 0, .int .i64 0, .int .i64 0, .int .i64 0, .int .i64 0, .int .i64 0, .int .i64 0, .int .i64 0, .int .i64 0, .int .i64 0, .int .i64 0, .int .i64 0, .int .i64 0, .int .i64 0, .int .i64 0, .int .i64 0, .int .i64 0, .int .i64 0, .int .i64 0, .int .i64 0, .int .i64 0, .int .i64 0, .int .i64 0, .int .i64 0, .int .i64 0, .int .i64 0, .int .i64 0, .int .i64 0, .int .i64 0, .int .i64 0, .int .i64 0, .int .i64 0, .int .i64 0, .int .i64 0, .int .i64 0, .int .i64 0, .int .i64 0, .int .i64 0, .int .i64 0, .int .i64 0, .int .i64 0, .int .i64 0, .int .i64 0, .int .i64 0, .int .i64 0, .int .i64 0, .int .i64 0, .int .i64 0, .int .i64 0, .int .i64 0] 61) := ⟨_, rfl⟩
    have C1 : Bk W2 w.heap.size (relA r) := by rw [hW2]; exact B1.alloc _
    have CA : Bk W2 w1.heap.size (atA (lessF 0)) := by
      have e : lessF 0 = fun _ => 0 := by funext j; unfold lessF; simp
      rw [hW2, e]; exact at_new w1 _
    have K2 : On w W2 := by rw [hW2]; exact K1.alloc _
    have HW2 : Hid (W2 = w1.alloc (.cells #[.int .i64 0, .int .i64 0, .int .i64 0, .int .i64 0, .int .i64 0, .int .i64 0, .int .i64 0, .int .i64 0, .int .i64 0, .int .i64 0, .int .i64 0, .int .i64 0, .int .i64 0, .int .i64 0, .int .i64 0, .int .i64 0, .int .i64 0, .int .i64 0, .int .i64 0, .int .i64 0, .int .i64 0, .int .i64 0, .int .i64 0, .int .i64 0, .int .i64 0, .int .i64 0, .int .i64 0, .int .i64 0, .int .i64 0, .int .i64 0, .int .i64 0, .int .i64 0, .int .i64 0, .int .i64 0, .int .i64 0, .int .i64 0, .int .i64 0, .int .i64 0, .int .i64 0, .int .i64 0, .int .i64 0, .int .i64 0, .int .i64 0, .int .i64 0, .int .i64 0, .int .i64 0, .int .i64 0, .int .i64 0, .int .i64 0, .int .i64 0, .int .i64 0, .int .i64 0, .int .i64 0, .int .i64 0, .int .i64 0, .int .i64 0, .int .i64 0, .int .i64 0, .int .i64 0, .int .i64 0, .int .i64 0, .int .i64 0, .int .i64 0, .int .i64 0] 61)) := hW2
    clear hW2 B1 h1 k0 k1 K1
    go_wp2
    rw [← HW2.out]
    clear HW2
    go_loopg [6] 64 (fun gg s6 wr => ∃ i : Nat, i ≤ 64 ∧ gg = 64 - i ∧ s6 = .int .i64 i ∧ Hid (On w wr) ∧ Bk wr w.heap.size (relA r) ∧ Bk wr w1.heap.size (atA (lessF i)))
    case atStart => exact ⟨0, Nat.zero_le _, rfl, rfl, K2, C1, CA⟩
    case round =>
      clear K2 C1 CA
      obtain ⟨i, hi, hk, rfl, HO, D1, DA⟩ := hrel
      rcases Nat.lt_or_ge i 64 with hlt | hge
      · have hca := DA.at (at_at (lessF i) hlt)
        have hcf := DA.fr i
        have hgl := DA.lt
        have DA2 := DA.atSet i (-1)
        rw [lessF_step] at DA2
        have D12 := D1.far (N := w1.heap.size) (by omega) i (.int .i64 (-1))
        have HO2 : Hid (On w (wr.setCell ⟨w1.heap.size, i, none⟩ (.int .i64 (-1)))) := HO.out.setNew (N := w1.heap.size) (i := i) (by omega) (.int .i64 (-1))
        clear HO D1 DA
        go_wp2
        go_roundg (64 - (i + 1))
        case measure => omega
        case rel => exact ⟨i + 1, hlt, rfl, by congr 1, HO2, D12, DA2⟩
      · obtain rfl : i = 64 := by omega
        go_wp2
        go_loopg [7] len (fun gg s7 wq => ∃ (i : Nat) (f : Nat → Int), i ≤ len ∧ gg = len - i ∧ s7 = .int .i64 i ∧ Hid (On w wq) ∧ Bk wq w.heap.size (relA r) ∧ Bk wq w1.heap.size (atA f) ∧ Hid (T = placedOk r (placeD len (L.drop i) i f)))
        case atStart => exact ⟨0, lessF 64, Nat.zero_le _, rfl, rfl, HO, D1, DA, HT⟩
        case round =>
          clear HO D1 DA HT
          obtain ⟨i, f, hi, hk, rfl, HO, D1, DA, HT⟩ := hrel
          rcases Nat.lt_or_ge i len with hlt | hge
          · obtain ⟨x, hx, hdr⟩ := drop_at (by rw [HLE.out]; exact hlt : i < L.length)
            obtain ⟨g, off, hga, hg, u0⟩ := (HL.out.on HO.out).at' HLE.out hx
            subst hga
            have hc0 := u0 0 _ rfl
            simp only [Nat.mul_one, Nat.add_zero] at hc0
            have HT1 := HT.out
            rw [hdr, placeD] at HT1
            have T0 : Bk wr.drew w.heap.size (relA r) ∧ Bk wr.drew w1.heap.size (atA f) ∧ wr.drew.cell? ⟨g, off + i, none⟩ = some (.int .i64 x) ∧ g < wr.drew.heap.size := ⟨D1, DA, hc0, hg⟩
            have hon : ∀ W W', Bk W w.heap.size (relA r) ∧ Bk W w1.heap.size (atA f) ∧ W.cell? ⟨g, off + i, none⟩ = some (.int .i64 x) ∧ g < W.heap.size → On W W' → Bk W' w.heap.size (relA r) ∧ Bk W' w1.heap.size (atA f) ∧ W'.cell? ⟨g, off + i, none⟩ = some (.int .i64 x) ∧ g < W'.heap.size := fun W W' h k => ⟨h.1.on k, h.2.1.on k, (k.cell (p := ⟨g, off + i, none⟩) h.2.2.2).trans h.2.2.1, Nat.lt_of_lt_of_le h.2.2.2 k.size⟩
            have K0 := HO.out.drew
            clear u0 hx hdr HT hc0 hH
            by_cases q1 : x < 0
            · rw [if_pos (Or.inl q1)] at HT1
              have HT2 : Hid (T = false) := HT1
              have d1 : decide (x < 0) = true := decide_eq_true q1
              clear HT1 q1 HO D1 DA
              go_wp2
              refine region_fin (fun W => Bk W w.heap.size (relA r) ∧ Bk W w1.heap.size (atA f) ∧ W.cell? ⟨g, off + i, none⟩ = some (.int .i64 x) ∧ g < W.heap.size) 99 23 (by kernel_rfl) rfl ?_
              refine fin_take 0 (v := ?_) rfl (by kernel_rfl) (by kernel_rfl) (by kernel_rfl) (by kernel_rfl) (fun _ _ _ h => h) rfl ?_ T0 ?_
              rotate_left
              · intro W hW
                go_simp
                (try with_reducible rfl)
              simp only [Act.put, List.setIfInBounds_toArray, List.set_cons_zero, List.set_cons_succ]
              refine fin_take 1 (v := ?_) rfl (by kernel_rfl) (by kernel_rfl) (by kernel_rfl) (by kernel_rfl) (fun _ _ _ h => h) rfl ?_ T0 ?_
              rotate_left
              · intro W hW
                go_simp
                (try with_reducible rfl)
              simp only [Act.put, List.setIfInBounds_toArray, List.set_cons_zero, List.set_cons_succ]
              refine fin_take 2 (v := ?_) rfl (by kernel_rfl) (by kernel_rfl) (by kernel_rfl) (by kernel_rfl) (fun _ _ _ h => h) rfl ?_ T0 ?_
              rotate_left
              · intro W hW
                go_simp
                (try with_reducible rfl)
              simp only [Act.put, List.setIfInBounds_toArray, List.set_cons_zero, List.set_cons_succ]
              refine fin_take 3 (v := ?_) rfl (by kernel_rfl) (by kernel_rfl) (by kernel_rfl) (by kernel_rfl) (fun _ _ _ h => h) rfl ?_ T0 ?_
              rotate_left
              · intro W hW
                have hcl := hW.2.2.1
                have hll := hW.2.2.2
                go_simp
                (try with_reducible rfl)
              simp only [Act.put, List.setIfInBounds_toArray, List.set_cons_zero, List.set_cons_succ]
              refine fin_take 4 (v := ?_) rfl (by kernel_rfl) (by kernel_rfl) (by kernel_rfl) (by kernel_rfl) (fun _ _ _ h => h) rfl ?_ T0 ?_
              rotate_left
              · intro W hW
                go_simp
                (try with_reducible rfl)
              simp only [Act.put, List.setIfInBounds_toArray, List.set_cons_zero, List.set_cons_succ]
              refine fin_take 5 (v := ?_) rfl (by kernel_rfl) (by kernel_rfl) (by kernel_rfl) (by kernel_rfl) (fun _ _ _ h => h) rfl ?_ T0 ?_
              rotate_left
              · intro W hW
                go_simp
                (try with_reducible rfl)
              simp only [Act.put, List.setIfInBounds_toArray, List.set_cons_zero, List.set_cons_succ]
              refine fin_takeN 6 rfl (by kernel_rfl) (by kernel_rfl) (by kernel_rfl) (by kernel_rfl) (fun _ _ _ h => h) (by rfl) T0 ?_
              simp only [Act.put, List.setIfInBounds_toArray, List.set_cons_zero, List.set_cons_succ]
              refine fin_takeN 7 rfl (by kernel_rfl) (by kernel_rfl) (by kernel_rfl) (by kernel_rfl) (fun _ _ _ h => h) (by rfl) T0 ?_
              simp only [Act.put, List.setIfInBounds_toArray, List.set_cons_zero, List.set_cons_succ]
              refine fin_takeN 8 rfl (by kernel_rfl) (by kernel_rfl) (by kernel_rfl) (by kernel_rfl) (fun _ _ _ h => h) (by rfl) T0 ?_
              simp only [Act.put, List.setIfInBounds_toArray, List.set_cons_zero, List.set_cons_succ]
              refine fin_takeN 9 rfl (by kernel_rfl) (by kernel_rfl) (by kernel_rfl) (by kernel_rfl) (fun _ _ _ h => h) (by rfl) T0 ?_
              simp only [Act.put, List.setIfInBounds_toArray, List.set_cons_zero, List.set_cons_succ]
              refine fin_takeN 10 rfl (by kernel_rfl) (by kernel_rfl) (by kernel_rfl) (by kernel_rfl) (fun _ _ _ h => h) (by rfl) T0 ?_
              simp only [Act.put, List.setIfInBounds_toArray, List.set_cons_zero, List.set_cons_succ]
              refine fin_takeN 11 rfl (by kernel_rfl) (by kernel_rfl) (by kernel_rfl) (by kernel_rfl) (fun _ _ _ h => h) (by rfl) T0 ?_
              simp only [Act.put, List.setIfInBounds_toArray, List.set_cons_zero, List.set_cons_succ]
              refine fin_takeN 12 rfl (by kernel_rfl) (by kernel_rfl) (by kernel_rfl) (by kernel_rfl) (fun _ _ _ h => h) (by rfl) T0 ?_
              simp only [Act.put, List.setIfInBounds_toArray, List.set_cons_zero, List.set_cons_succ]
              refine fin_take 13 (v := ?_) rfl (by kernel_rfl) (by kernel_rfl) (by kernel_rfl) (by kernel_rfl) (fun _ _ _ h => h) rfl ?_ T0 ?_
              rotate_left
              · intro W hW
                go_simp
                (try with_reducible rfl)
              simp only [Act.put, List.setIfInBounds_toArray, List.set_cons_zero, List.set_cons_succ]
              refine fin_take 14 (v := ?_) rfl (by kernel_rfl) (by kernel_rfl) (by kernel_rfl) (by kernel_rfl) (fun _ _ _ h => h) rfl ?_ T0 ?_
              rotate_left
              · intro W hW
                go_simp
                (try with_reducible rfl)
              simp only [Act.put, List.setIfInBounds_toArray, List.set_cons_zero, List.set_cons_succ]
              refine fin_takeN 15 rfl (by kernel_rfl) (by kernel_rfl) (by kernel_rfl) (by kernel_rfl) (fun _ _ _ h => h) (by rfl) T0 ?_
              simp only [Act.put, List.setIfInBounds_toArray, List.set_cons_zero, List.set_cons_succ]
              refine fin_takeN 16 rfl (by kernel_rfl) (by kernel_rfl) (by kernel_rfl) (by kernel_rfl) (fun _ _ _ h => h) (by rfl) T0 ?_
              simp only [Act.put, List.setIfInBounds_toArray, List.set_cons_zero, List.set_cons_succ]
              refine fin_takeN 17 rfl (by kernel_rfl) (by kernel_rfl) (by kernel_rfl) (by kernel_rfl) (fun _ _ _ h => h) (by rfl) T0 ?_
              simp only [Act.put, List.setIfInBounds_toArray, List.set_cons_zero, List.set_cons_succ]
              refine fin_takeN 18 rfl (by kernel_rfl) (by kernel_rfl) (by kernel_rfl) (by kernel_rfl) (fun _ _ _ h => h) (by rfl) T0 ?_
              simp only [Act.put, List.setIfInBounds_toArray, List.set_cons_zero, List.set_cons_succ]
              refine fin_takeN 19 rfl (by kernel_rfl) (by kernel_rfl) (by kernel_rfl) (by kernel_rfl) (fun _ _ _ h => h) (by rfl) T0 ?_
              simp only [Act.put, List.setIfInBounds_toArray, List.set_cons_zero, List.set_cons_succ]
              refine fin_takeN 20 rfl (by kernel_rfl) (by kernel_rfl) (by kernel_rfl) (by kernel_rfl) (fun _ _ _ h => h) (by rfl) T0 ?_
              simp only [Act.put, List.setIfInBounds_toArray, List.set_cons_zero, List.set_cons_succ]
              refine fin_takeN 21 rfl (by kernel_rfl) (by kernel_rfl) (by kernel_rfl) (by kernel_rfl) (fun _ _ _ h => h) (by rfl) T0 ?_
              simp only [Act.put, List.setIfInBounds_toArray, List.set_cons_zero, List.set_cons_succ]
              refine fin_take 22 (v := ?_) rfl (by kernel_rfl) (by kernel_rfl) (by kernel_rfl) (by kernel_rfl) (fun _ _ _ h => h) rfl ?_ T0 ?_
              rotate_left
              · intro W hW
                go_simp
                (try with_reducible rfl)
              simp only [Act.put, List.setIfInBounds_toArray, List.set_cons_zero, List.set_cons_succ]
              refine fin_done (by kernel_rfl) (NoPanic.normal ?_)
              go_wp2
              go_ret
              exact ⟨by rw [HT2.out]; rfl, K0⟩
            · have d1 : decide (x < 0) = false := decide_eq_false q1
              by_cases q2 : (len : Int) ≤ x
              · rw [if_pos (Or.inr (Or.inl q2))] at HT1
                have HT2 : Hid (T = false) := HT1
                have d2 : decide ((len : Int) ≤ x) = true := decide_eq_true q2
                clear HT1 q1 q2 HO D1 DA
                go_wp2
                refine region_fin (fun W => Bk W w.heap.size (relA r) ∧ Bk W w1.heap.size (atA f) ∧ W.cell? ⟨g, off + i, none⟩ = some (.int .i64 x) ∧ g < W.heap.size) 99 23 (by kernel_rfl) rfl ?_
                refine fin_take 0 (v := ?_) rfl (by kernel_rfl) (by kernel_rfl) (by kernel_rfl) (by kernel_rfl) (fun _ _ _ h => h) rfl ?_ T0 ?_
                rotate_left
                · intro W hW
                  go_simp
                  (try with_reducible rfl)
                simp only [Act.put, List.setIfInBounds_toArray, List.set_cons_zero, List.set_cons_succ]
                refine fin_take 1 (v := ?_) rfl (by kernel_rfl) (by kernel_rfl) (by kernel_rfl) (by kernel_rfl) (fun _ _ _ h => h) rfl ?_ T0 ?_
                rotate_left
                · intro W hW
                  go_simp
                  (try with_reducible rfl)
                simp only [Act.put, List.setIfInBounds_toArray, List.set_cons_zero, List.set_cons_succ]
                refine fin_take 2 (v := ?_) rfl (by kernel_rfl) (by kernel_rfl) (by kernel_rfl) (by kernel_rfl) (fun _ _ _ h => h) rfl ?_ T0 ?_
                rotate_left
                · intro W hW
                  go_simp
                  (try with_reducible rfl)
                simp only [Act.put, List.setIfInBounds_toArray, List.set_cons_zero, List.set_cons_succ]
                refine fin_take 3 (v := ?_) rfl (by kernel_rfl) (by kernel_rfl) (by kernel_rfl) (by kernel_rfl) (fun _ _ _ h => h) rfl ?_ T0 ?_
                rotate_left
                · intro W hW
                  have hcl := hW.2.2.1
                  have hll := hW.2.2.2
                  go_simp
                  (try with_reducible rfl)
                simp only [Act.put, List.setIfInBounds_toArray, List.set_cons_zero, List.set_cons_succ]
                refine fin_take 4 (v := ?_) rfl (by kernel_rfl) (by kernel_rfl) (by kernel_rfl) (by kernel_rfl) (fun _ _ _ h => h) rfl ?_ T0 ?_
                rotate_left
                · intro W hW
                  go_simp
                  (try with_reducible rfl)
                simp only [Act.put, List.setIfInBounds_toArray, List.set_cons_zero, List.set_cons_succ]
                refine fin_take 5 (v := ?_) rfl (by kernel_rfl) (by kernel_rfl) (by kernel_rfl) (by kernel_rfl) (fun _ _ _ h => h) rfl ?_ T0 ?_
                rotate_left
                · intro W hW
                  go_simp
                  (try with_reducible rfl)
                simp only [Act.put, List.setIfInBounds_toArray, List.set_cons_zero, List.set_cons_succ]
                refine fin_takeG 6 (v := ?_) rfl (by kernel_rfl) (by kernel_rfl) (by kernel_rfl) (by kernel_rfl) (fun _ _ _ h => h) (by rfl) ?_ T0 ?_
                rotate_left
                · intro W hW
                  go_simp
                  (try with_reducible rfl)
                simp only [Act.put, List.setIfInBounds_toArray, List.set_cons_zero, List.set_cons_succ]
                refine fin_takeG 7 (v := ?_) rfl (by kernel_rfl) (by kernel_rfl) (by kernel_rfl) (by kernel_rfl) (fun _ _ _ h => h) (by rfl) ?_ T0 ?_
                rotate_left
                · intro W hW
                  go_simp
                  (try with_reducible rfl)
                simp only [Act.put, List.setIfInBounds_toArray, List.set_cons_zero, List.set_cons_succ]
                refine fin_takeG 8 (v := ?_) rfl (by kernel_rfl) (by kernel_rfl) (by kernel_rfl) (by kernel_rfl) (fun _ _ _ h => h) (by rfl) ?_ T0 ?_
                rotate_left
                · intro W hW
                  go_simp
                  (try with_reducible rfl)
                simp only [Act.put, List.setIfInBounds_toArray, List.set_cons_zero, List.set_cons_succ]
                refine fin_takeG 9 (v := ?_) rfl (by kernel_rfl) (by kernel_rfl) (by kernel_rfl) (by kernel_rfl) (fun _ _ _ h => h) (by rfl) ?_ T0 ?_
                rotate_left
                · intro W hW
                  have hcl := hW.2.2.1
                  have hll := hW.2.2.2
                  go_simp
                  (try with_reducible rfl)
                simp only [Act.put, List.setIfInBounds_toArray, List.set_cons_zero, List.set_cons_succ]
                refine fin_takeG 10 (v := .agg (relA r)) rfl (by kernel_rfl) (by kernel_rfl) (by kernel_rfl) (by kernel_rfl) (fun _ _ _ h => h) (by rfl) (fun W hW => exec_ld rfl rfl (hW.1)) T0 ?_
                simp only [Act.put, List.setIfInBounds_toArray, List.set_cons_zero, List.set_cons_succ]
                refine fin_oneG 11 rfl (by rfl) (by kernel_rfl) (fun K hK => ?_)
                go_simp
                refine (hN _).mono ?_
                rintro _ v1 ⟨rfl, kv1⟩
                have Sv1 := hon _ _ T0 kv1
                have Kv1 := K0.trans kv1
                refine hK.out _ _ (fun _ => Sv1) ?_
                clear hK
                refine fin_takeG 12 (v := ?_) rfl (by kernel_rfl) (by kernel_rfl) (by kernel_rfl) (by kernel_rfl) (fun _ _ _ h => h) (by rfl) ?_ Sv1 ?_
                rotate_left
                · intro W hW
                  go_simp
                  (try with_reducible rfl)
                simp only [Act.put, List.setIfInBounds_toArray, List.set_cons_zero, List.set_cons_succ]
                refine fin_take 13 (v := ?_) rfl (by kernel_rfl) (by kernel_rfl) (by kernel_rfl) (by kernel_rfl) (fun _ _ _ h => h) rfl ?_ Sv1 ?_
                rotate_left
                · intro W hW
                  go_simp
                  (try with_reducible rfl)
                simp only [Act.put, List.setIfInBounds_toArray, List.set_cons_zero, List.set_cons_succ]
                refine fin_take 14 (v := ?_) rfl (by kernel_rfl) (by kernel_rfl) (by kernel_rfl) (by kernel_rfl) (fun _ _ _ h => h) rfl ?_ Sv1 ?_
                rotate_left
                · intro W hW
                  go_simp
                  (try with_reducible rfl)
                simp only [Act.put, List.setIfInBounds_toArray, List.set_cons_zero, List.set_cons_succ]
                refine fin_takeN 15 rfl (by kernel_rfl) (by kernel_rfl) (by kernel_rfl) (by kernel_rfl) (fun _ _ _ h => h) (by rfl) Sv1 ?_
                simp only [Act.put, List.setIfInBounds_toArray, List.set_cons_zero, List.set_cons_succ]
                refine fin_takeN 16 rfl (by kernel_rfl) (by kernel_rfl) (by kernel_rfl) (by kernel_rfl) (fun _ _ _ h => h) (by rfl) Sv1 ?_
                simp only [Act.put, List.setIfInBounds_toArray, List.set_cons_zero, List.set_cons_succ]
                refine fin_takeN 17 rfl (by kernel_rfl) (by kernel_rfl) (by kernel_rfl) (by kernel_rfl) (fun _ _ _ h => h) (by rfl) Sv1 ?_
                simp only [Act.put, List.setIfInBounds_toArray, List.set_cons_zero, List.set_cons_succ]
                refine fin_takeN 18 rfl (by kernel_rfl) (by kernel_rfl) (by kernel_rfl) (by kernel_rfl) (fun _ _ _ h => h) (by rfl) Sv1 ?_
                simp only [Act.put, List.setIfInBounds_toArray, List.set_cons_zero, List.set_cons_succ]
                refine fin_takeN 19 rfl (by kernel_rfl) (by kernel_rfl) (by kernel_rfl) (by kernel_rfl) (fun _ _ _ h => h) (by rfl) Sv1 ?_
                simp only [Act.put, List.setIfInBounds_toArray, List.set_cons_zero, List.set_cons_succ]
                refine fin_takeN 20 rfl (by kernel_rfl) (by kernel_rfl) (by kernel_rfl) (by kernel_rfl) (fun _ _ _ h => h) (by rfl) Sv1 ?_
                simp only [Act.put, List.setIfInBounds_toArray, List.set_cons_zero, List.set_cons_succ]
                refine fin_takeN 21 rfl (by kernel_rfl) (by kernel_rfl) (by kernel_rfl) (by kernel_rfl) (fun _ _ _ h => h) (by rfl) Sv1 ?_
                simp only [Act.put, List.setIfInBounds_toArray, List.set_cons_zero, List.set_cons_succ]
                refine fin_take 22 (v := ?_) rfl (by kernel_rfl) (by kernel_rfl) (by kernel_rfl) (by kernel_rfl) (fun _ _ _ h => h) rfl ?_ Sv1 ?_
                rotate_left
                · intro W hW
                  go_simp
                  (try with_reducible rfl)
                simp only [Act.put, List.setIfInBounds_toArray, List.set_cons_zero, List.set_cons_succ]
                refine fin_done (by kernel_rfl) (NoPanic.normal ?_)
                go_wp2
                go_ret
                exact ⟨by rw [HT2.out]; rfl, Kv1⟩
              · obtain ⟨k, hkx⟩ : ∃ k : Nat, x = k := ⟨x.toNat, by omega⟩
                subst hkx
                have hkl : k < len := by omega
                have hk6 : k < 64 := by omega
                have hk6i : (k : Int) < 64 := by omega
                have d2 : decide (len ≤ k) = false := decide_eq_false (by omega)
                have hca := fun W (h : Bk W w1.heap.size (atA f)) => h.at (at_at f hk6)
                have hkt : ((k : Int)).toNat = k := by omega
                rw [hkt] at HT1
                clear q1 q2 d1
                by_cases q3 : 0 ≤ f k
                · rw [if_pos (Or.inr (Or.inr q3))] at HT1
                  have HT2 : Hid (T = false) := HT1
                  have d3 : decide (0 ≤ f k) = true := decide_eq_true q3
                  clear HT1 q3 HO D1 DA
                  generalize f k = y at *
                  go_wp2
                  refine region_fin (fun W => Bk W w.heap.size (relA r) ∧ Bk W w1.heap.size (atA f) ∧ W.cell? ⟨g, off + i, none⟩ = some (.int .i64 k) ∧ g < W.heap.size) 99 23 (by kernel_rfl) rfl ?_
                  refine fin_take 0 (v := ?_) rfl (by kernel_rfl) (by kernel_rfl) (by kernel_rfl) (by kernel_rfl) (fun _ _ _ h => h) rfl ?_ T0 ?_
                  rotate_left
                  · intro W hW
                    go_simp
                    (try with_reducible rfl)
                  simp only [Act.put, List.setIfInBounds_toArray, List.set_cons_zero, List.set_cons_succ]
                  refine fin_take 1 (v := ?_) rfl (by kernel_rfl) (by kernel_rfl) (by kernel_rfl) (by kernel_rfl) (fun _ _ _ h => h) rfl ?_ T0 ?_
                  rotate_left
                  · intro W hW
                    go_simp
                    (try with_reducible rfl)
                  simp only [Act.put, List.setIfInBounds_toArray, List.set_cons_zero, List.set_cons_succ]
                  refine fin_take 2 (v := ?_) rfl (by kernel_rfl) (by kernel_rfl) (by kernel_rfl) (by kernel_rfl) (fun _ _ _ h => h) rfl ?_ T0 ?_
                  rotate_left
                  · intro W hW
                    go_simp
                    (try with_reducible rfl)
                  simp only [Act.put, List.setIfInBounds_toArray, List.set_cons_zero, List.set_cons_succ]
                  refine fin_take 3 (v := ?_) rfl (by kernel_rfl) (by kernel_rfl) (by kernel_rfl) (by kernel_rfl) (fun _ _ _ h => h) rfl ?_ T0 ?_
                  rotate_left
                  · intro W hW
                    have hcl := hW.2.2.1
                    have hll := hW.2.2.2
                    go_simp
                    (try with_reducible rfl)
                  simp only [Act.put, List.setIfInBounds_toArray, List.set_cons_zero, List.set_cons_succ]
                  refine fin_take 4 (v := ?_) rfl (by kernel_rfl) (by kernel_rfl) (by kernel_rfl) (by kernel_rfl) (fun _ _ _ h => h) rfl ?_ T0 ?_
                  rotate_left
                  · intro W hW
                    go_simp
                    (try with_reducible rfl)
                  simp only [Act.put, List.setIfInBounds_toArray, List.set_cons_zero, List.set_cons_succ]
                  refine fin_take 5 (v := ?_) rfl (by kernel_rfl) (by kernel_rfl) (by kernel_rfl) (by kernel_rfl) (fun _ _ _ h => h) rfl ?_ T0 ?_
                  rotate_left
                  · intro W hW
                    go_simp
                    (try with_reducible rfl)
                  simp only [Act.put, List.setIfInBounds_toArray, List.set_cons_zero, List.set_cons_succ]
                  refine fin_takeG 6 (v := ?_) rfl (by kernel_rfl) (by kernel_rfl) (by kernel_rfl) (by kernel_rfl) (fun _ _ _ h => h) (by rfl) ?_ T0 ?_
                  rotate_left
                  · intro W hW
                    go_simp
                    (try with_reducible rfl)
                  simp only [Act.put, List.setIfInBounds_toArray, List.set_cons_zero, List.set_cons_succ]
                  refine fin_takeG 7 (v := ?_) rfl (by kernel_rfl) (by kernel_rfl) (by kernel_rfl) (by kernel_rfl) (fun _ _ _ h => h) (by rfl) ?_ T0 ?_
                  rotate_left
                  · intro W hW
                    go_simp
                    (try with_reducible rfl)
                  simp only [Act.put, List.setIfInBounds_toArray, List.set_cons_zero, List.set_cons_succ]
                  refine fin_takeG 8 (v := ?_) rfl (by kernel_rfl) (by kernel_rfl) (by kernel_rfl) (by kernel_rfl) (fun _ _ _ h => h) (by rfl) ?_ T0 ?_
                  rotate_left
                  · intro W hW
                    go_simp
                    (try with_reducible rfl)
                  simp only [Act.put, List.setIfInBounds_toArray, List.set_cons_zero, List.set_cons_succ]
                  refine fin_takeG 9 (v := ?_) rfl (by kernel_rfl) (by kernel_rfl) (by kernel_rfl) (by kernel_rfl) (fun _ _ _ h => h) (by rfl) ?_ T0 ?_
                  rotate_left
                  · intro W hW
                    have hcl := hW.2.2.1
                    have hll := hW.2.2.2
                    go_simp
                    (try with_reducible rfl)
                  simp only [Act.put, List.setIfInBounds_toArray, List.set_cons_zero, List.set_cons_succ]
                  refine fin_takeG 10 (v := .agg (relA r)) rfl (by kernel_rfl) (by kernel_rfl) (by kernel_rfl) (by kernel_rfl) (fun _ _ _ h => h) (by rfl) (fun W hW => exec_ld rfl rfl (hW.1)) T0 ?_
                  simp only [Act.put, List.setIfInBounds_toArray, List.set_cons_zero, List.set_cons_succ]
                  refine fin_oneG 11 rfl (by rfl) (by kernel_rfl) (fun K hK => ?_)
                  go_simp
                  refine (hN _).mono ?_
                  rintro _ v1 ⟨rfl, kv1⟩
                  have Sv1 := hon _ _ T0 kv1
                  have Kv1 := K0.trans kv1
                  refine hK.out _ _ (fun _ => Sv1) ?_
                  clear hK
                  refine fin_takeG 12 (v := ?_) rfl (by kernel_rfl) (by kernel_rfl) (by kernel_rfl) (by kernel_rfl) (fun _ _ _ h => h) (by rfl) ?_ Sv1 ?_
                  rotate_left
                  · intro W hW
                    go_simp
                    (try with_reducible rfl)
                  simp only [Act.put, List.setIfInBounds_toArray, List.set_cons_zero, List.set_cons_succ]
                  refine fin_take 13 (v := ?_) rfl (by kernel_rfl) (by kernel_rfl) (by kernel_rfl) (by kernel_rfl) (fun _ _ _ h => h) rfl ?_ Sv1 ?_
                  rotate_left
                  · intro W hW
                    go_simp
                    (try with_reducible rfl)
                  simp only [Act.put, List.setIfInBounds_toArray, List.set_cons_zero, List.set_cons_succ]
                  refine fin_take 14 (v := ?_) rfl (by kernel_rfl) (by kernel_rfl) (by kernel_rfl) (by kernel_rfl) (fun _ _ _ h => h) rfl ?_ Sv1 ?_
                  rotate_left
                  · intro W hW
                    go_simp
                    (try with_reducible rfl)
                  simp only [Act.put, List.setIfInBounds_toArray, List.set_cons_zero, List.set_cons_succ]
                  refine fin_takeG 15 (v := ?_) rfl (by kernel_rfl) (by kernel_rfl) (by kernel_rfl) (by kernel_rfl) (fun _ _ _ h => h) (by rfl) ?_ Sv1 ?_
                  rotate_left
                  · intro W hW
                    go_simp
                    (try with_reducible rfl)
                  simp only [Act.put, List.setIfInBounds_toArray, List.set_cons_zero, List.set_cons_succ]
                  refine fin_takeG 16 (v := ?_) rfl (by kernel_rfl) (by kernel_rfl) (by kernel_rfl) (by kernel_rfl) (fun _ _ _ h => h) (by rfl) ?_ Sv1 ?_
                  rotate_left
                  · intro W hW
                    go_simp
                    (try with_reducible rfl)
                  simp only [Act.put, List.setIfInBounds_toArray, List.set_cons_zero, List.set_cons_succ]
                  refine fin_takeG 17 (v := ?_) rfl (by kernel_rfl) (by kernel_rfl) (by kernel_rfl) (by kernel_rfl) (fun _ _ _ h => h) (by rfl) ?_ Sv1 ?_
                  rotate_left
                  · intro W hW
                    go_simp
                    (try with_reducible rfl)
                  simp only [Act.put, List.setIfInBounds_toArray, List.set_cons_zero, List.set_cons_succ]
                  refine fin_takeG 18 (v := ?_) rfl (by kernel_rfl) (by kernel_rfl) (by kernel_rfl) (by kernel_rfl) (fun _ _ _ h => h) (by rfl) ?_ Sv1 ?_
                  rotate_left
                  · intro W hW
                    have hcl := hW.2.2.1
                    have hll := hW.2.2.2
                    go_simp
                    (try with_reducible rfl)
                  simp only [Act.put, List.setIfInBounds_toArray, List.set_cons_zero, List.set_cons_succ]
                  refine fin_takeG 19 (v := ?_) rfl (by kernel_rfl) (by kernel_rfl) (by kernel_rfl) (by kernel_rfl) (fun _ _ _ h => h) (by rfl) ?_ Sv1 ?_
                  rotate_left
                  · intro W hW
                    go_simp
                    (try with_reducible rfl)
                  simp only [Act.put, List.setIfInBounds_toArray, List.set_cons_zero, List.set_cons_succ]
                  refine fin_takeG 20 (v := ?_) rfl (by kernel_rfl) (by kernel_rfl) (by kernel_rfl) (by kernel_rfl) (fun _ _ _ h => h) (by rfl) ?_ Sv1 ?_
                  rotate_left
                  · intro W hW
                    have hcl := hca _ hW.2.1
                    have hll := hW.2.1.lt
                    go_simp
                    (try with_reducible rfl)
                  simp only [Act.put, List.setIfInBounds_toArray, List.set_cons_zero, List.set_cons_succ]
                  refine fin_takeG 21 (v := ?_) rfl (by kernel_rfl) (by kernel_rfl) (by kernel_rfl) (by kernel_rfl) (fun _ _ _ h => h) (by rfl) ?_ Sv1 ?_
                  rotate_left
                  · intro W hW
                    go_simp
                    (try with_reducible rfl)
                  simp only [Act.put, List.setIfInBounds_toArray, List.set_cons_zero, List.set_cons_succ]
                  refine fin_take 22 (v := ?_) rfl (by kernel_rfl) (by kernel_rfl) (by kernel_rfl) (by kernel_rfl) (fun _ _ _ h => h) rfl ?_ Sv1 ?_
                  rotate_left
                  · intro W hW
                    go_simp
                    (try with_reducible rfl)
                  simp only [Act.put, List.setIfInBounds_toArray, List.set_cons_zero, List.set_cons_succ]
                  refine fin_done (by kernel_rfl) (NoPanic.normal ?_)
                  go_wp2
                  go_ret
                  exact ⟨by rw [HT2.out]; rfl, Kv1⟩
                · rw [if_neg (by omega)] at HT1
                  have HT2 : Hid (T = _) := HT1
                  have d3 : decide (0 ≤ f k) = false := decide_eq_false q3
                  clear HT1 q3 HO D1 DA
                  obtain ⟨y, hy⟩ : ∃ y, y = f k := ⟨_, rfl⟩
                  rw [← hy] at d3 hca
                  clear hy
                  go_wp2
                  refine region_fin (fun W => Bk W w.heap.size (relA r) ∧ Bk W w1.heap.size (atA f) ∧ W.cell? ⟨g, off + i, none⟩ = some (.int .i64 k) ∧ g < W.heap.size) 99 23 (by kernel_rfl) rfl ?_
                  refine fin_take 0 (v := ?_) rfl (by kernel_rfl) (by kernel_rfl) (by kernel_rfl) (by kernel_rfl) (fun _ _ _ h => h) rfl ?_ T0 ?_
                  rotate_left
                  · intro W hW
                    go_simp
                    (try with_reducible rfl)
                  simp only [Act.put, List.setIfInBounds_toArray, List.set_cons_zero, List.set_cons_succ]
                  refine fin_take 1 (v := ?_) rfl (by kernel_rfl) (by kernel_rfl) (by kernel_rfl) (by kernel_rfl) (fun _ _ _ h => h) rfl ?_ T0 ?_
                  rotate_left
                  · intro W hW
                    go_simp
                    (try with_reducible rfl)
                  simp only [Act.put, List.setIfInBounds_toArray, List.set_cons_zero, List.set_cons_succ]
                  refine fin_take 2 (v := ?_) rfl (by kernel_rfl) (by kernel_rfl) (by kernel_rfl) (by kernel_rfl) (fun _ _ _ h => h) rfl ?_ T0 ?_
                  rotate_left
                  · intro W hW
                    go_simp
                    (try with_reducible rfl)
                  simp only [Act.put, List.setIfInBounds_toArray, List.set_cons_zero, List.set_cons_succ]
                  refine fin_take 3 (v := ?_) rfl (by kernel_rfl) (by kernel_rfl) (by kernel_rfl) (by kernel_rfl) (fun _ _ _ h => h) rfl ?_ T0 ?_
                  rotate_left
                  · intro W hW
                    have hcl := hW.2.2.1
                    have hll := hW.2.2.2
                    go_simp
                    (try with_reducible rfl)
                  simp only [Act.put, List.setIfInBounds_toArray, List.set_cons_zero, List.set_cons_succ]
                  refine fin_take 4 (v := ?_) rfl (by kernel_rfl) (by kernel_rfl) (by kernel_rfl) (by kernel_rfl) (fun _ _ _ h => h) rfl ?_ T0 ?_
                  rotate_left
                  · intro W hW
                    go_simp
                    (try with_reducible rfl)
                  simp only [Act.put, List.setIfInBounds_toArray, List.set_cons_zero, List.set_cons_succ]
                  refine fin_take 5 (v := ?_) rfl (by kernel_rfl) (by kernel_rfl) (by kernel_rfl) (by kernel_rfl) (fun _ _ _ h => h) rfl ?_ T0 ?_
                  rotate_left
                  · intro W hW
                    go_simp
                    (try with_reducible rfl)
                  simp only [Act.put, List.setIfInBounds_toArray, List.set_cons_zero, List.set_cons_succ]
                  refine fin_takeG 6 (v := ?_) rfl (by kernel_rfl) (by kernel_rfl) (by kernel_rfl) (by kernel_rfl) (fun _ _ _ h => h) (by rfl) ?_ T0 ?_
                  rotate_left
                  · intro W hW
                    go_simp
                    (try with_reducible rfl)
                  simp only [Act.put, List.setIfInBounds_toArray, List.set_cons_zero, List.set_cons_succ]
                  refine fin_takeG 7 (v := ?_) rfl (by kernel_rfl) (by kernel_rfl) (by kernel_rfl) (by kernel_rfl) (fun _ _ _ h => h) (by rfl) ?_ T0 ?_
                  rotate_left
                  · intro W hW
                    go_simp
                    (try with_reducible rfl)
                  simp only [Act.put, List.setIfInBounds_toArray, List.set_cons_zero, List.set_cons_succ]
                  refine fin_takeG 8 (v := ?_) rfl (by kernel_rfl) (by kernel_rfl) (by kernel_rfl) (by kernel_rfl) (fun _ _ _ h => h) (by rfl) ?_ T0 ?_
                  rotate_left
                  · intro W hW
                    go_simp
                    (try with_reducible rfl)
                  simp only [Act.put, List.setIfInBounds_toArray, List.set_cons_zero, List.set_cons_succ]
                  refine fin_takeG 9 (v := ?_) rfl (by kernel_rfl) (by kernel_rfl) (by kernel_rfl) (by kernel_rfl) (fun _ _ _ h => h) (by rfl) ?_ T0 ?_
                  rotate_left
                  · intro W hW
                    have hcl := hW.2.2.1
                    have hll := hW.2.2.2
                    go_simp
                    (try with_reducible rfl)
                  simp only [Act.put, List.setIfInBounds_toArray, List.set_cons_zero, List.set_cons_succ]
                  refine fin_takeG 10 (v := .agg (relA r)) rfl (by kernel_rfl) (by kernel_rfl) (by kernel_rfl) (by kernel_rfl) (fun _ _ _ h => h) (by rfl) (fun W hW => exec_ld rfl rfl (hW.1)) T0 ?_
                  simp only [Act.put, List.setIfInBounds_toArray, List.set_cons_zero, List.set_cons_succ]
                  refine fin_oneG 11 rfl (by rfl) (by kernel_rfl) (fun K hK => ?_)
                  go_simp
                  refine (hN _).mono ?_
                  rintro _ v1 ⟨rfl, kv1⟩
                  have Sv1 := hon _ _ T0 kv1
                  have Kv1 := K0.trans kv1
                  refine hK.out _ _ (fun _ => Sv1) ?_
                  clear hK
                  refine fin_takeG 12 (v := ?_) rfl (by kernel_rfl) (by kernel_rfl) (by kernel_rfl) (by kernel_rfl) (fun _ _ _ h => h) (by rfl) ?_ Sv1 ?_
                  rotate_left
                  · intro W hW
                    go_simp
                    (try with_reducible rfl)
                  simp only [Act.put, List.setIfInBounds_toArray, List.set_cons_zero, List.set_cons_succ]
                  refine fin_take 13 (v := ?_) rfl (by kernel_rfl) (by kernel_rfl) (by kernel_rfl) (by kernel_rfl) (fun _ _ _ h => h) rfl ?_ Sv1 ?_
                  rotate_left
                  · intro W hW
                    go_simp
                    (try with_reducible rfl)
                  simp only [Act.put, List.setIfInBounds_toArray, List.set_cons_zero, List.set_cons_succ]
                  refine fin_take 14 (v := ?_) rfl (by kernel_rfl) (by kernel_rfl) (by kernel_rfl) (by kernel_rfl) (fun _ _ _ h => h) rfl ?_ Sv1 ?_
                  rotate_left
                  · intro W hW
                    go_simp
                    (try with_reducible rfl)
                  simp only [Act.put, List.setIfInBounds_toArray, List.set_cons_zero, List.set_cons_succ]
                  refine fin_takeG 15 (v := ?_) rfl (by kernel_rfl) (by kernel_rfl) (by kernel_rfl) (by kernel_rfl) (fun _ _ _ h => h) (by rfl) ?_ Sv1 ?_
                  rotate_left
                  · intro W hW
                    go_simp
                    (try with_reducible rfl)
                  simp only [Act.put, List.setIfInBounds_toArray, List.set_cons_zero, List.set_cons_succ]
                  refine fin_takeG 16 (v := ?_) rfl (by kernel_rfl) (by kernel_rfl) (by kernel_rfl) (by kernel_rfl) (fun _ _ _ h => h) (by rfl) ?_ Sv1 ?_
                  rotate_left
                  · intro W hW
                    go_simp
                    (try with_reducible rfl)
                  simp only [Act.put, List.setIfInBounds_toArray, List.set_cons_zero, List.set_cons_succ]
                  refine fin_takeG 17 (v := ?_) rfl (by kernel_rfl) (by kernel_rfl) (by kernel_rfl) (by kernel_rfl) (fun _ _ _ h => h) (by rfl) ?_ Sv1 ?_
                  rotate_left
                  · intro W hW
                    go_simp
                    (try with_reducible rfl)
                  simp only [Act.put, List.setIfInBounds_toArray, List.set_cons_zero, List.set_cons_succ]
                  refine fin_takeG 18 (v := ?_) rfl (by kernel_rfl) (by kernel_rfl) (by kernel_rfl) (by kernel_rfl) (fun _ _ _ h => h) (by rfl) ?_ Sv1 ?_
                  rotate_left
                  · intro W hW
                    have hcl := hW.2.2.1
                    have hll := hW.2.2.2
                    go_simp
                    (try with_reducible rfl)
                  simp only [Act.put, List.setIfInBounds_toArray, List.set_cons_zero, List.set_cons_succ]
                  refine fin_takeG 19 (v := ?_) rfl (by kernel_rfl) (by kernel_rfl) (by kernel_rfl) (by kernel_rfl) (fun _ _ _ h => h) (by rfl) ?_ Sv1 ?_
                  rotate_left
                  · intro W hW
                    go_simp
                    (try with_reducible rfl)
                  simp only [Act.put, List.setIfInBounds_toArray, List.set_cons_zero, List.set_cons_succ]
                  refine fin_takeG 20 (v := ?_) rfl (by kernel_rfl) (by kernel_rfl) (by kernel_rfl) (by kernel_rfl) (fun _ _ _ h => h) (by rfl) ?_ Sv1 ?_
                  rotate_left
                  · intro W hW
                    have hcl := hca _ hW.2.1
                    have hll := hW.2.1.lt
                    go_simp
                    (try with_reducible rfl)
                  simp only [Act.put, List.setIfInBounds_toArray, List.set_cons_zero, List.set_cons_succ]
                  refine fin_takeG 21 (v := ?_) rfl (by kernel_rfl) (by kernel_rfl) (by kernel_rfl) (by kernel_rfl) (fun _ _ _ h => h) (by rfl) ?_ Sv1 ?_
                  rotate_left
                  · intro W hW
                    go_simp
                    (try with_reducible rfl)
                  simp only [Act.put, List.setIfInBounds_toArray, List.set_cons_zero, List.set_cons_succ]
                  refine fin_take 22 (v := ?_) rfl (by kernel_rfl) (by kernel_rfl) (by kernel_rfl) (by kernel_rfl) (fun _ _ _ h => h) rfl ?_ Sv1 ?_
                  rotate_left
                  · intro W hW
                    go_simp
                    (try with_reducible rfl)
                  simp only [Act.put, List.setIfInBounds_toArray, List.set_cons_zero, List.set_cons_succ]
                  refine fin_done (by kernel_rfl) (NoPanic.normal ?_)
                  have b1 := Sv1.1
                  have ba := Sv1.2.1
                  have hcl := Sv1.2.2.1
                  have hll := Sv1.2.2.2
                  have hcy := hca _ ba
                  have hcf := ba.fr k
                  have hgl := ba.lt
                  have ba2 := ba.atSet k i
                  have b12 := b1.far (N := w1.heap.size) (by omega) k (.int .i64 i)
                  have hszw := Kv1.size
                  have HO2 : Hid (On w _) := Kv1.setNew (N := w1.heap.size) (i := k) (by omega) (.int .i64 i)
                  clear hon T0 K0 hca Sv1 Kv1 b1 ba kv1
                  go_wp2
                  go_roundg (len - (i + 1))
                  case measure => omega
                  case rel => exact ⟨i + 1, updI f k i, hlt, rfl, by congr 1, HO2, b12, ba2, HT2⟩
          · obtain rfl : len = i := by omega
            have e : T = rowsTo r f len len := by
              rw [HT.out, ← HLE.out, List.drop_length, placeD, placedOk, HLE.out, ← HNN.out]
            have HT3 : Hid (T = rowsTo r f len len) := e
            clear e HT HL
            go_wp2
            go_loopg [8] len (fun gg s8 wq => ∃ a : Nat, a ≤ len ∧ gg = len - a ∧ s8 = .int .i64 a ∧ Hid (On w wq) ∧ Bk wq w.heap.size (relA r) ∧ Bk wq w1.heap.size (atA f) ∧ Hid (rowsTo r f len a = true))
            case atStart => exact ⟨0, Nat.zero_le _, rfl, rfl, HO, D1, DA, rfl⟩
            case round =>
              clear HO D1 DA
              obtain ⟨a, ha, hk, rfl, HO, D1, DA, HRO⟩ := hrel
              rcases Nat.lt_or_ge a len with halt | hage
              · go_wp2_with (refine wpList_ld rfl rfl rfl D1 ?_)
                refine (hN _).mono ?_
                rintro _ w3 ⟨rfl, k3⟩
                have HO3 : Hid (On w w3) := HO.out.trans k3
                have E1 := D1.on k3
                have EA := DA.on k3
                clear HO D1 DA k3
                go_wp2
                go_loopg [9] len (fun gg s9 wi => ∃ b : Nat, b ≤ len ∧ gg = len - b ∧ s9 = .int .i64 b ∧ Hid (On w wi) ∧ Bk wi w.heap.size (relA r) ∧ Bk wi w1.heap.size (atA f) ∧ Hid (pairsTo r f a b = true))
                case atStart => exact ⟨0, Nat.zero_le _, rfl, rfl, HO3, E1, EA, rfl⟩
                case round =>
                  clear HO3 E1 EA
                  obtain ⟨b, hb, hkb, rfl, HO, D1, DA, HPA⟩ := hrel
                  rcases Nat.lt_or_ge b len with hblt | hbge
                  · go_wp2_with (refine wpList_ld rfl rfl rfl D1 ?_)
                    refine (hN _).mono ?_
                    rintro _ w4 ⟨rfl, k4⟩
                    have HO4 : Hid (On w w4) := HO.out.trans k4
                    have T0 : Bk w4.drew w.heap.size (relA r) ∧ Bk w4.drew w1.heap.size (atA f) := ⟨(D1.on k4).drew, (DA.on k4).drew⟩
                    have hon : ∀ W W', Bk W w.heap.size (relA r) ∧ Bk W w1.heap.size (atA f) → On W W' → Bk W' w.heap.size (relA r) ∧ Bk W' w1.heap.size (atA f) := fun W W' h k => ⟨h.1.on k, h.2.on k⟩
                    have K0 := HO4.out.drew
                    have hHab := fun W => hH a b W
                    have hrel2 := HH.out a b
                    rw [hrel2] at hHab
                    have hp : pairOk r f a b = !(H r a b && decide (f b ≤ f a)) := rfl
                    have ha6 : a < 64 := by omega
                    have hb6 : b < 64 := by omega
                    have ha6i : (a : Int) < 64 := by omega
                    have hb6i : (b : Int) < 64 := by omega
                    have hcA := fun W (h : Bk W w1.heap.size (atA f)) => h.at (at_at f ha6)
                    have hcB := fun W (h : Bk W w1.heap.size (atA f)) => h.at (at_at f hb6)
                    clear HO D1 DA k4 hrel2 HO4
                    cases hh : H r a b with
                    | false =>
                      rw [hh] at hHab hp
                      have HP2 : Hid (pairsTo r f a (b + 1) = true) := by show _ = _; rw [pairsTo, HPA.out, hp]; rfl
                      clear hh hp
                      go_wp2
                      refine region_fin (fun W => Bk W w.heap.size (relA r) ∧ Bk W w1.heap.size (atA f)) 99 13 (by kernel_rfl) rfl ?_
                      refine fin_take 0 (v := .agg (relA r)) rfl (by kernel_rfl) (by kernel_rfl) (by kernel_rfl) (by kernel_rfl) (fun _ _ _ h => h) rfl (fun W hW => exec_ld rfl rfl (hW.1)) T0 ?_
                      simp only [Act.put, List.setIfInBounds_toArray, List.set_cons_zero, List.set_cons_succ]
                      refine fin_take 1 (v := ?_) rfl (by kernel_rfl) (by kernel_rfl) (by kernel_rfl) (by kernel_rfl) (fun _ _ _ h => h) rfl ?_ T0 ?_
                      rotate_left
                      · intro W hW
                        go_simp
                        (try with_reducible rfl)
                      simp only [Act.put, List.setIfInBounds_toArray, List.set_cons_zero, List.set_cons_succ]
                      refine fin_take 2 (v := ?_) rfl (by kernel_rfl) (by kernel_rfl) (by kernel_rfl) (by kernel_rfl) (fun _ _ _ h => h) rfl ?_ T0 ?_
                      rotate_left
                      · intro W hW
                        go_simp
                        (try with_reducible rfl)
                      simp only [Act.put, List.setIfInBounds_toArray, List.set_cons_zero, List.set_cons_succ]
                      refine fin_one 3 rfl rfl (by kernel_rfl) (fun K hK => ?_)
                      go_simp
                      refine (hHab _).mono ?_
                      rintro _ v1 ⟨rfl, kv1⟩
                      have Sv1 := hon _ _ T0 kv1
                      have Kv1 := K0.trans kv1
                      refine hK.out _ _ (fun _ => Sv1) ?_
                      clear hK
                      refine fin_take 4 (v := ?_) rfl (by kernel_rfl) (by kernel_rfl) (by kernel_rfl) (by kernel_rfl) (fun _ _ _ h => h) rfl ?_ Sv1 ?_
                      rotate_left
                      · intro W hW
                        go_simp
                        (try with_reducible rfl)
                      simp only [Act.put, List.setIfInBounds_toArray, List.set_cons_zero, List.set_cons_succ]
                      refine fin_takeN 5 rfl (by kernel_rfl) (by kernel_rfl) (by kernel_rfl) (by kernel_rfl) (fun _ _ _ h => h) (by rfl) Sv1 ?_
                      simp only [Act.put, List.setIfInBounds_toArray, List.set_cons_zero, List.set_cons_succ]
                      refine fin_takeN 6 rfl (by kernel_rfl) (by kernel_rfl) (by kernel_rfl) (by kernel_rfl) (fun _ _ _ h => h) (by rfl) Sv1 ?_
                      simp only [Act.put, List.setIfInBounds_toArray, List.set_cons_zero, List.set_cons_succ]
                      refine fin_takeN 7 rfl (by kernel_rfl) (by kernel_rfl) (by kernel_rfl) (by kernel_rfl) (fun _ _ _ h => h) (by rfl) Sv1 ?_
                      simp only [Act.put, List.setIfInBounds_toArray, List.set_cons_zero, List.set_cons_succ]
                      refine fin_takeN 8 rfl (by kernel_rfl) (by kernel_rfl) (by kernel_rfl) (by kernel_rfl) (fun _ _ _ h => h) (by rfl) Sv1 ?_
                      simp only [Act.put, List.setIfInBounds_toArray, List.set_cons_zero, List.set_cons_succ]
                      refine fin_takeN 9 rfl (by kernel_rfl) (by kernel_rfl) (by kernel_rfl) (by kernel_rfl) (fun _ _ _ h => h) (by rfl) Sv1 ?_
                      simp only [Act.put, List.setIfInBounds_toArray, List.set_cons_zero, List.set_cons_succ]
                      refine fin_takeN 10 rfl (by kernel_rfl) (by kernel_rfl) (by kernel_rfl) (by kernel_rfl) (fun _ _ _ h => h) (by rfl) Sv1 ?_
                      simp only [Act.put, List.setIfInBounds_toArray, List.set_cons_zero, List.set_cons_succ]
                      refine fin_takeN 11 rfl (by kernel_rfl) (by kernel_rfl) (by kernel_rfl) (by kernel_rfl) (fun _ _ _ h => h) (by rfl) Sv1 ?_
                      simp only [Act.put, List.setIfInBounds_toArray, List.set_cons_zero, List.set_cons_succ]
                      refine fin_take 12 (v := ?_) rfl (by kernel_rfl) (by kernel_rfl) (by kernel_rfl) (by kernel_rfl) (fun _ _ _ h => h) rfl ?_ Sv1 ?_
                      rotate_left
                      · intro W hW
                        go_simp
                        (try with_reducible rfl)
                      simp only [Act.put, List.setIfInBounds_toArray, List.set_cons_zero, List.set_cons_succ]
                      refine fin_done (by kernel_rfl) (NoPanic.normal ?_)
                      have HOL : Hid (On w _) := Kv1
                      have b1 := Sv1.1
                      have ba := Sv1.2
                      clear hon T0 K0 Sv1 Kv1 kv1
                      go_wp2
                      go_roundg (len - (b + 1))
                      case measure => omega
                      case rel => exact ⟨b + 1, hblt, rfl, by congr 1, HOL, b1, ba, HP2⟩
                    | true =>
                      rw [hh] at hHab hp
                      by_cases q : f b ≤ f a
                      · have d : decide (f b ≤ f a) = true := decide_eq_true q
                        rw [d] at hp
                        have HT4 : Hid (T = false) := by show T = false; rw [HT3.out]; exact rowsTo_no r f len a (pairsTo_no r f a b hp len hblt) len halt
                        clear hh hp q HPA HRO HT3
                        generalize f b = fb at *
                        generalize f a = fa at *
                        go_wp2
                        refine region_fin (fun W => Bk W w.heap.size (relA r) ∧ Bk W w1.heap.size (atA f)) 99 13 (by kernel_rfl) rfl ?_
                        refine fin_take 0 (v := .agg (relA r)) rfl (by kernel_rfl) (by kernel_rfl) (by kernel_rfl) (by kernel_rfl) (fun _ _ _ h => h) rfl (fun W hW => exec_ld rfl rfl (hW.1)) T0 ?_
                        simp only [Act.put, List.setIfInBounds_toArray, List.set_cons_zero, List.set_cons_succ]
                        refine fin_take 1 (v := ?_) rfl (by kernel_rfl) (by kernel_rfl) (by kernel_rfl) (by kernel_rfl) (fun _ _ _ h => h) rfl ?_ T0 ?_
                        rotate_left
                        · intro W hW
                          go_simp
                          (try with_reducible rfl)
                        simp only [Act.put, List.setIfInBounds_toArray, List.set_cons_zero, List.set_cons_succ]
                        refine fin_take 2 (v := ?_) rfl (by kernel_rfl) (by kernel_rfl) (by kernel_rfl) (by kernel_rfl) (fun _ _ _ h => h) rfl ?_ T0 ?_
                        rotate_left
                        · intro W hW
                          go_simp
                          (try with_reducible rfl)
                        simp only [Act.put, List.setIfInBounds_toArray, List.set_cons_zero, List.set_cons_succ]
                        refine fin_one 3 rfl rfl (by kernel_rfl) (fun K hK => ?_)
                        go_simp
                        refine (hHab _).mono ?_
                        rintro _ v1 ⟨rfl, kv1⟩
                        have Sv1 := hon _ _ T0 kv1
                        have Kv1 := K0.trans kv1
                        refine hK.out _ _ (fun _ => Sv1) ?_
                        clear hK
                        refine fin_take 4 (v := ?_) rfl (by kernel_rfl) (by kernel_rfl) (by kernel_rfl) (by kernel_rfl) (fun _ _ _ h => h) rfl ?_ Sv1 ?_
                        rotate_left
                        · intro W hW
                          go_simp
                          (try with_reducible rfl)
                        simp only [Act.put, List.setIfInBounds_toArray, List.set_cons_zero, List.set_cons_succ]
                        refine fin_takeG 5 (v := ?_) rfl (by kernel_rfl) (by kernel_rfl) (by kernel_rfl) (by kernel_rfl) (fun _ _ _ h => h) (by rfl) ?_ Sv1 ?_
                        rotate_left
                        · intro W hW
                          go_simp
                          (try with_reducible rfl)
                        simp only [Act.put, List.setIfInBounds_toArray, List.set_cons_zero, List.set_cons_succ]
                        refine fin_takeG 6 (v := ?_) rfl (by kernel_rfl) (by kernel_rfl) (by kernel_rfl) (by kernel_rfl) (fun _ _ _ h => h) (by rfl) ?_ Sv1 ?_
                        rotate_left
                        · intro W hW
                          go_simp
                          (try with_reducible rfl)
                        simp only [Act.put, List.setIfInBounds_toArray, List.set_cons_zero, List.set_cons_succ]
                        refine fin_takeG 7 (v := ?_) rfl (by kernel_rfl) (by kernel_rfl) (by kernel_rfl) (by kernel_rfl) (fun _ _ _ h => h) (by rfl) ?_ Sv1 ?_
                        rotate_left
                        · intro W hW
                          have hcl := hcA _ hW.2
                          have hll := hW.2.lt
                          go_simp
                          (try with_reducible rfl)
                        simp only [Act.put, List.setIfInBounds_toArray, List.set_cons_zero, List.set_cons_succ]
                        refine fin_takeG 8 (v := ?_) rfl (by kernel_rfl) (by kernel_rfl) (by kernel_rfl) (by kernel_rfl) (fun _ _ _ h => h) (by rfl) ?_ Sv1 ?_
                        rotate_left
                        · intro W hW
                          go_simp
                          (try with_reducible rfl)
                        simp only [Act.put, List.setIfInBounds_toArray, List.set_cons_zero, List.set_cons_succ]
                        refine fin_takeG 9 (v := ?_) rfl (by kernel_rfl) (by kernel_rfl) (by kernel_rfl) (by kernel_rfl) (fun _ _ _ h => h) (by rfl) ?_ Sv1 ?_
                        rotate_left
                        · intro W hW
                          go_simp
                          (try with_reducible rfl)
                        simp only [Act.put, List.setIfInBounds_toArray, List.set_cons_zero, List.set_cons_succ]
                        refine fin_takeG 10 (v := ?_) rfl (by kernel_rfl) (by kernel_rfl) (by kernel_rfl) (by kernel_rfl) (fun _ _ _ h => h) (by rfl) ?_ Sv1 ?_
                        rotate_left
                        · intro W hW
                          have hcl := hcB _ hW.2
                          have hll := hW.2.lt
                          go_simp
                          (try with_reducible rfl)
                        simp only [Act.put, List.setIfInBounds_toArray, List.set_cons_zero, List.set_cons_succ]
                        refine fin_takeG 11 (v := ?_) rfl (by kernel_rfl) (by kernel_rfl) (by kernel_rfl) (by kernel_rfl) (fun _ _ _ h => h) (by rfl) ?_ Sv1 ?_
                        rotate_left
                        · intro W hW
                          go_simp
                          (try with_reducible rfl)
                        simp only [Act.put, List.setIfInBounds_toArray, List.set_cons_zero, List.set_cons_succ]
                        refine fin_take 12 (v := ?_) rfl (by kernel_rfl) (by kernel_rfl) (by kernel_rfl) (by kernel_rfl) (fun _ _ _ h => h) rfl ?_ Sv1 ?_
                        rotate_left
                        · intro W hW
                          go_simp
                          (try with_reducible rfl)
                        simp only [Act.put, List.setIfInBounds_toArray, List.set_cons_zero, List.set_cons_succ]
                        refine fin_done (by kernel_rfl) (NoPanic.normal ?_)
                        go_wp2
                        go_ret
                        exact ⟨by rw [HT4.out]; rfl, Kv1⟩
                      · have d : decide (f b ≤ f a) = false := decide_eq_false q
                        rw [d] at hp
                        have HP2 : Hid (pairsTo r f a (b + 1) = true) := by show _ = _; rw [pairsTo, HPA.out, hp]; rfl
                        obtain ⟨fb, hfb⟩ : ∃ fb, fb = f b := ⟨_, rfl⟩
                        obtain ⟨fa, hfa⟩ : ∃ fa, fa = f a := ⟨_, rfl⟩
                        rw [← hfb] at d hcB
                        rw [← hfa] at d hcA
                        clear hh hp q hfa hfb
                        go_wp2
                        refine region_fin (fun W => Bk W w.heap.size (relA r) ∧ Bk W w1.heap.size (atA f)) 99 13 (by kernel_rfl) rfl ?_
                        refine fin_take 0 (v := .agg (relA r)) rfl (by kernel_rfl) (by kernel_rfl) (by kernel_rfl) (by kernel_rfl) (fun _ _ _ h => h) rfl (fun W hW => exec_ld rfl rfl (hW.1)) T0 ?_
                        simp only [Act.put, List.setIfInBounds_toArray, List.set_cons_zero, List.set_cons_succ]
                        refine fin_take 1 (v := ?_) rfl (by kernel_rfl) (by kernel_rfl) (by kernel_rfl) (by kernel_rfl) (fun _ _ _ h => h) rfl ?_ T0 ?_
                        rotate_left
                        · intro W hW
                          go_simp
                          (try with_reducible rfl)
                        simp only [Act.put, List.setIfInBounds_toArray, List.set_cons_zero, List.set_cons_succ]
                        refine fin_take 2 (v := ?_) rfl (by kernel_rfl) (by kernel_rfl) (by kernel_rfl) (by kernel_rfl) (fun _ _ _ h => h) rfl ?_ T0 ?_
                        rotate_left
                        · intro W hW
                          go_simp
                          (try with_reducible rfl)
                        simp only [Act.put, List.setIfInBounds_toArray, List.set_cons_zero, List.set_cons_succ]
                        refine fin_one 3 rfl rfl (by kernel_rfl) (fun K hK => ?_)
                        go_simp
                        refine (hHab _).mono ?_
                        rintro _ v1 ⟨rfl, kv1⟩
                        have Sv1 := hon _ _ T0 kv1
                        have Kv1 := K0.trans kv1
                        refine hK.out _ _ (fun _ => Sv1) ?_
                        clear hK
                        refine fin_take 4 (v := ?_) rfl (by kernel_rfl) (by kernel_rfl) (by kernel_rfl) (by kernel_rfl) (fun _ _ _ h => h) rfl ?_ Sv1 ?_
                        rotate_left
                        · intro W hW
                          go_simp
                          (try with_reducible rfl)
                        simp only [Act.put, List.setIfInBounds_toArray, List.set_cons_zero, List.set_cons_succ]
                        refine fin_takeG 5 (v := ?_) rfl (by kernel_rfl) (by kernel_rfl) (by kernel_rfl) (by kernel_rfl) (fun _ _ _ h => h) (by rfl) ?_ Sv1 ?_
                        rotate_left
                        · intro W hW
                          go_simp
                          (try with_reducible rfl)
                        simp only [Act.put, List.setIfInBounds_toArray, List.set_cons_zero, List.set_cons_succ]
                        refine fin_takeG 6 (v := ?_) rfl (by kernel_rfl) (by kernel_rfl) (by kernel_rfl) (by kernel_rfl) (fun _ _ _ h => h) (by rfl) ?_ Sv1 ?_
                        rotate_left
                        · intro W hW
                          go_simp
                          (try with_reducible rfl)
                        simp only [Act.put, List.setIfInBounds_toArray, List.set_cons_zero, List.set_cons_succ]
                        refine fin_takeG 7 (v := ?_) rfl (by kernel_rfl) (by kernel_rfl) (by kernel_rfl) (by kernel_rfl) (fun _ _ _ h => h) (by rfl) ?_ Sv1 ?_
                        rotate_left
                        · intro W hW
                          have hcl := hcA _ hW.2
                          have hll := hW.2.lt
                          go_simp
                          (try with_reducible rfl)
                        simp only [Act.put, List.setIfInBounds_toArray, List.set_cons_zero, List.set_cons_succ]
                        refine fin_takeG 8 (v := ?_) rfl (by kernel_rfl) (by kernel_rfl) (by kernel_rfl) (by kernel_rfl) (fun _ _ _ h => h) (by rfl) ?_ Sv1 ?_
                        rotate_left
                        · intro W hW
                          go_simp
                          (try with_reducible rfl)
                        simp only [Act.put, List.setIfInBounds_toArray, List.set_cons_zero, List.set_cons_succ]
                        refine fin_takeG 9 (v := ?_) rfl (by kernel_rfl) (by kernel_rfl) (by kernel_rfl) (by kernel_rfl) (fun _ _ _ h => h) (by rfl) ?_ Sv1 ?_
                        rotate_left
                        · intro W hW
                          go_simp
                          (try with_reducible rfl)
                        simp only [Act.put, List.setIfInBounds_toArray, List.set_cons_zero, List.set_cons_succ]
                        refine fin_takeG 10 (v := ?_) rfl (by kernel_rfl) (by kernel_rfl) (by kernel_rfl) (by kernel_rfl) (fun _ _ _ h => h) (by rfl) ?_ Sv1 ?_
                        rotate_left
                        · intro W hW
                          have hcl := hcB _ hW.2
                          have hll := hW.2.lt
                          go_simp
                          (try with_reducible rfl)
                        simp only [Act.put, List.setIfInBounds_toArray, List.set_cons_zero, List.set_cons_succ]
                        refine fin_takeG 11 (v := ?_) rfl (by kernel_rfl) (by kernel_rfl) (by kernel_rfl) (by kernel_rfl) (fun _ _ _ h => h) (by rfl) ?_ Sv1 ?_
                        rotate_left
                        · intro W hW
                          go_simp
                          (try with_reducible rfl)
                        simp only [Act.put, List.setIfInBounds_toArray, List.set_cons_zero, List.set_cons_succ]
                        refine fin_take 12 (v := ?_) rfl (by kernel_rfl) (by kernel_rfl) (by kernel_rfl) (by kernel_rfl) (fun _ _ _ h => h) rfl ?_ Sv1 ?_
                        rotate_left
                        · intro W hW
                          go_simp
                          (try with_reducible rfl)
                        simp only [Act.put, List.setIfInBounds_toArray, List.set_cons_zero, List.set_cons_succ]
                        refine fin_done (by kernel_rfl) (NoPanic.normal ?_)
                        have HOL : Hid (On w _) := Kv1
                        have b1 := Sv1.1
                        have ba := Sv1.2
                        clear hon T0 K0 Sv1 Kv1 kv1
                        go_wp2
                        go_roundg (len - (b + 1))
                        case measure => omega
                        case rel => exact ⟨b + 1, hblt, rfl, by congr 1, HOL, b1, ba, HP2⟩
                  · obtain rfl : len = b := by omega
                    have HR2 : Hid (rowsTo r f len (a + 1) = true) := by show _ = _; rw [rowsTo, HRO.out, HPA.out]; rfl
                    go_wp2_with (refine wpList_ld rfl rfl rfl D1 ?_)
                    refine (hN _).mono ?_
                    rintro _ w4 ⟨rfl, k4⟩
                    have HO4 : Hid (On w w4) := HO.out.trans k4
                    have E1 := D1.on k4
                    have EA := DA.on k4
                    clear HO D1 DA k4
                    go_wp2
                    go_roundg (len - (a + 1))
                    case measure => omega
                    case rel => exact ⟨a + 1, halt, rfl, by congr 1, HO4, E1, EA, HR2⟩
              · obtain rfl : len = a := by omega
                have HT5 : Hid (T = true) := by show T = true; rw [HT3.out]; exact HRO.out
                go_wp2_with (refine wpList_ld rfl rfl rfl D1 ?_)
                refine (hN _).mono ?_
                rintro _ w4 ⟨rfl, k4⟩
                have HO4 : Hid (On w w4) := HO.out.trans k4
                go_wp2
                go_ret
                exact ⟨by rw [HT5.out]; rfl, HO4.out⟩
  · have e : T = false := by rw [hT]; unfold keepD; rw [← HNN.out]; simp [hln]
    subst e
    have hb : ((L.length : Int) == (n : Int)) = false := by simpa using (by omega : ¬ (L.length : Int) = n)
    clear hT
    generalize L.length = len at *
    go_enter Tryd.func11, Tryd.ntmps11
    go_wp2_with (refine wpList_ld rfl rfl rfl h1 ?_)
    refine (hN _).mono ?_
    rintro _ w1 ⟨rfl, k1⟩
    go_wp2
    go_ret
    exact ⟨rfl, k0.trans k1⟩
end Go.Proofs.YtohngifmbnlmmaaDoor
