/- Ends held against each other: slices.Compare over numbers of 64 bits, final.compare, final.Less, the document's Less. -/
import Derived.Test.YtioiabfheeglgaaGreatDoorFinW
import Derived.Test.YtioiabfheeglgaaGreatDoorGen0
import Derived.Test.YtioiabfheeglgaaGreatDoorWaC
import Derived.BigQuiet
import Derived.Shelf.SlSortCmp.WholeK
namespace Go.Proofs.YtioiabfheeglgaaGreatDoor
open Go.RowKit

theorem nan8_is (x : Int) (w : World) : Calls Tryz.prog 103 #[.int .i64 x] w fun e w' => e = .returned (.bool false) ∧ w' = w := by
  have h : ((x : Int) != x) = false := by simp
  go_enter Tryz.func103, Tryz.ntmps103
  go_wp2
  go_ret
  exact ⟨rfl, rfl⟩
set_option maxHeartbeats 1000000 in
theorem cmp8_is (x y : Int) (w : World) : Calls Tryz.prog 89 #[.int .i64 x, .int .i64 y] w fun e w' => e = .returned (.int .i64 (cmpI x y)) ∧ w' = w := by
  have h1 := nan8_is x
  have h2 := nan8_is y
  unfold cmpI
  by_cases a : x < y
  · have da : decide (x < y) = true := decide_eq_true a
    rw [if_pos a]
    go_enter Tryz.func89, Tryz.ntmps89
    go_wp2_with fail
    refine (h1 _).mono ?_
    rintro _ _ ⟨rfl, rfl⟩
    go_wp2_with fail
    refine (h2 _).mono ?_
    rintro _ _ ⟨rfl, rfl⟩
    go_wp2
    go_ret
    exact ⟨rfl, rfl⟩
  · have da : decide (x < y) = false := decide_eq_false a
    rw [if_neg a]
    by_cases b : y < x
    · have db : decide (y < x) = true := decide_eq_true b
      rw [if_pos b]
      go_enter Tryz.func89, Tryz.ntmps89
      go_wp2_with fail
      refine (h1 _).mono ?_
      rintro _ _ ⟨rfl, rfl⟩
      go_wp2_with fail
      refine (h2 _).mono ?_
      rintro _ _ ⟨rfl, rfl⟩
      go_wp2
      go_ret
      exact ⟨rfl, rfl⟩
    · have db : decide (y < x) = false := decide_eq_false b
      rw [if_neg b]
      go_enter Tryz.func89, Tryz.ntmps89
      go_wp2_with fail
      refine (h1 _).mono ?_
      rintro _ _ ⟨rfl, rfl⟩
      go_wp2_with fail
      refine (h2 _).mono ?_
      rintro _ _ ⟨rfl, rfl⟩
      go_wp2
      go_ret
      exact ⟨rfl, rfl⟩
set_option maxHeartbeats 2000000 in
theorem scmp8_is (L M : List Int) (a b : Option Addr) (c d : Nat) (w : World) (h : Rd intC 1 w (.slice a L.length c) L) (h' : Rd intC 1 w (.slice b M.length d) M) :
    Calls Tryz.prog 69 #[.slice a L.length c, .slice b M.length d] w fun e w' => e = .returned (.int .i64 (lexC cmpI L M)) ∧ w' = w := by
  obtain ⟨_, _, _, _, hm⟩ := h.slice
  obtain ⟨_, _, _, _, hm'⟩ := h'.slice
  have HA : Hid (Rd intC 1 w (.slice a L.length c) L) := h
  have HB : Hid (Rd intC 1 w (.slice b M.length d) M) := h'
  obtain ⟨R, hR⟩ : ∃ R, R = lexC cmpI L M := ⟨_, rfl⟩
  rw [← hR]
  have HR : Hid (R = lexC cmpI (L.drop 0) (M.drop 0)) := hR
  clear h h' hR
  go_enter Tryz.func69, Tryz.ntmps69
  go_wp2
  go_loopg [11] L.length (fun gg s11 wq => ∃ n : Nat, n ≤ L.length ∧ n ≤ M.length ∧ gg = L.length - n ∧ s11 = .int .i64 n ∧ Hid (wq = w) ∧ Hid (R = lexC cmpI (L.drop n) (M.drop n)))
  case atStart => exact ⟨0, Nat.zero_le _, Nat.zero_le _, rfl, rfl, rfl, HR⟩
  case round =>
    clear HR
    obtain ⟨n, hn, hnM, hk, rfl, HO, HR⟩ := hrel
    rcases Nat.lt_or_ge n L.length with hlt | hge
    · obtain ⟨x, hx⟩ : ∃ x, L[n]? = some x := ⟨_, List.getElem?_eq_getElem hlt⟩
      obtain ⟨g1, o1, rfl, hg1, hc⟩ := (by rw [HO.out]; exact HA.out : Rd intC 1 wr (.slice a L.length c) L).at hx
      have hc0 := hc 0 _ rfl
      rw [Nat.mul_one, Nat.add_zero] at hc0
      have hr := HR.out
      have bn0 : (0 : Int) ≤ (n : Int) := by omega
      have bn1 : (n : Int) < (L.length : Int) := by omega
      rcases Nat.lt_or_ge n M.length with hltM | hgeM
      · obtain ⟨y, hy⟩ : ∃ y, M[n]? = some y := ⟨_, List.getElem?_eq_getElem hltM⟩
        obtain ⟨g2, o2, rfl, hg2, hd⟩ := (by rw [HO.out]; exact HB.out : Rd intC 1 wr (.slice b M.length d) M).at hy
        have hd0 := hd 0 _ rfl
        rw [Nat.mul_one, Nat.add_zero] at hd0
        have bn2 : (n : Int) < (M.length : Int) := by omega
        have dm : decide (M.length ≤ n) = false := decide_eq_false (by omega)
        rw [drop_at hx, drop_at hy, lexC] at hr
        have hC := cmp8_is x y
        generalize cmpI x y = z at *
        by_cases h0 : z = 0
        · rw [if_pos h0] at hr
          have hb : ((z : Int) != 0) = false := by rw [h0]; rfl
          have HR2 : Hid (R = lexC cmpI (L.drop (n + 1)) (M.drop (n + 1))) := hr
          clear hx hy hr HR hc hd h0
          go_wp2_with fail
          refine (hC _).mono ?_
          rintro _ _ ⟨rfl, rfl⟩
          go_wp2
          go_roundg (L.length - (n + 1))
          case measure => omega
          case rel => exact ⟨n + 1, by omega, by omega, rfl, by go_num, HO, HR2⟩
        · rw [if_neg h0] at hr
          have hb : ((z : Int) != 0) = true := by simpa using h0
          subst hr
          clear hx hy HR hc hd h0
          go_wp2_with fail
          refine (hC _).mono ?_
          rintro _ _ ⟨rfl, rfl⟩
          go_wp2
          go_ret
          exact ⟨rfl, HO.out⟩
      · have dm : decide (M.length ≤ n) = true := decide_eq_true hgeM
        rw [drop_at hx, List.drop_eq_nil_of_le hgeM, lexC] at hr
        subst hr
        clear hx hc HR
        go_wp2
        go_ret
        exact ⟨rfl, HO.out⟩
    · obtain rfl : n = L.length := by omega
      rcases Nat.lt_or_ge L.length M.length with hltM | hgeM
      · obtain ⟨y, hy⟩ : ∃ y, M[L.length]? = some y := ⟨_, List.getElem?_eq_getElem hltM⟩
        have hr := HR.out
        rw [List.drop_length, drop_at hy, lexC] at hr
        subst hr
        have dm : decide (L.length < M.length) = true := decide_eq_true hltM
        clear hy HR
        go_wp2
        go_ret
        exact ⟨rfl, HO.out⟩
      · have hr := HR.out
        rw [List.drop_length, List.drop_eq_nil_of_le hgeM, lexC] at hr
        subst hr
        have dm : decide (L.length < M.length) = false := decide_eq_false (by omega)
        clear HR
        go_wp2
        go_ret
        exact ⟨rfl, HO.out⟩
/-- Some numbers of an end, as a slice into its block. -/
theorem rd_part {w : World} {N : Nat} {f : FinT} (B : Bk w N (finA f)) (o n : Nat) (h : o + n ≤ 20) : Rd intC 1 w (.slice (some ⟨N, o, none⟩) n n) ((f.l.drop o).take n) := by
  have hl : ((f.l.drop o).take n).length = n := by rw [List.length_take, List.length_drop, f.h]; omega
  refine ⟨some ⟨N, o, none⟩, n, by rw [hl], by omega, by omega, fun _ => ⟨N, o, rfl, B.lt, fun i x j u hi hj => ?_⟩⟩
  have hj0 : j = 0 := by
    have := (List.getElem?_eq_some_iff.1 hj).1
    simpa [intC] using this
  subst hj0
  simp only [intC, List.getElem?_cons_zero, Option.some.injEq] at hj
  subst hj
  rw [Nat.mul_one, Nat.add_zero]
  refine B.at (finA_at f ?_)
  rw [List.getElem?_take] at hi
  split at hi
  · rw [List.getElem?_drop] at hi
    exact hi
  · cases hi
theorem part_len (f : FinT) (o n : Nat) (h : o + n ≤ 20) : ((f.l.drop o).take n).length = n := by rw [List.length_take, List.length_drop, f.h]; omega
theorem scmp_part {w : World} {N M : Nat} {f g : FinT} (B : Bk w N (finA f)) (B' : Bk w M (finA g)) (o n : Nat) (h : o + n ≤ 20) :
    Calls Tryz.prog 69 #[.slice (some ⟨N, o, none⟩) n n, .slice (some ⟨M, o, none⟩) n n] w fun e w' => e = .returned (.int .i64 (lexC cmpI ((f.l.drop o).take n) ((g.l.drop o).take n))) ∧ w' = w := by
  have h1 := rd_part B o n h
  have h2 := rd_part B' o n h
  have e1 := part_len f o n h
  have e2 := part_len g o n h
  generalize (f.l.drop o).take n = L at *
  generalize (g.l.drop o).take n = M' at *
  have := scmp8_is L M' (some ⟨N, o, none⟩) (some ⟨M, o, none⟩) n n w (by rw [e1]; exact h1) (by rw [e2]; exact h2)
  rw [e1, e2] at this
  exact this
theorem fend_cut (f g : FinT) (k : Nat) (h : k < 4) : lexC cmpI (f.l.drop (k * 4)) (g.l.drop (k * 4)) = if lexC cmpI ((f.l.drop (k * 4)).take 4) ((g.l.drop (k * 4)).take 4) = 0 then lexC cmpI (f.l.drop ((k + 1) * 4)) (g.l.drop ((k + 1) * 4)) else lexC cmpI ((f.l.drop (k * 4)).take 4) ((g.l.drop (k * 4)).take 4) := by
  rw [lex_cut cmpI 4 (f.l.drop (k * 4)) (g.l.drop (k * 4)) (by rw [List.length_drop, List.length_drop, f.h, g.h]) (by rw [List.length_drop, f.h]; omega), List.drop_drop, List.drop_drop, show k * 4 + 4 = (k + 1) * 4 by omega]
theorem Bk.drewN {w : World} {N : Nat} {cs : Array Value} (h : Bk w N cs) (n : Nat) : Bk (w.drewN n) N cs := h
theorem more_drew {wr W0 : World} (h : ∃ q, wr = W0.drewN q) (n : Nat) : ∃ q, wr.drewN n = W0.drewN q := by
  obtain ⟨q, rfl⟩ := h
  exact ⟨q + n, by simp [World.drewN, Nat.add_assoc]⟩
set_option maxHeartbeats 2000000 in
theorem fcmp_is (f g : FinT) (w : World) : Calls Tryz.prog 52 #[.agg (finA f), .agg (finA g)] w fun e w' => e = .returned (.int .i64 (finCmp f g)) ∧ ∃ q, w' = ((w.alloc (.cells (finA f) 36)).alloc (.cells (finA g) 36)).drewN q := by
  obtain ⟨W0, hW0⟩ : ∃ W0, W0 = (w.alloc (.cells (finA f) 36)).alloc (.cells (finA g) 36) := ⟨_, rfl⟩
  have HW : Hid (W0 = (w.alloc (.cells (finA f) 36)).alloc (.cells (finA g) 36)) := hW0
  have HB1 : Hid (Bk W0 w.heap.size (finA f)) := by rw [hW0]; exact (Bk.new w (finA f) 36).alloc _
  have HB2 : Hid (Bk W0 (w.heap.size + 1) (finA g)) := by
    have := Bk.new (w.alloc (.cells (finA f) 36)) (finA g) 36
    rw [World.size_alloc] at this
    rw [hW0]
    exact this
  rw [← hW0]
  obtain ⟨R, hR⟩ : ∃ R, R = finCmp f g := ⟨_, rfl⟩
  rw [← hR]
  have HR : Hid (R = lexC cmpI (f.l.drop (0 * 4)) (g.l.drop (0 * 4))) := hR
  clear hR hW0
  go_enter Tryz.func52, Tryz.ntmps52
  go_wp2
  rw [← HW.out]
  go_loopg [7] 4 (fun gg s7 wq => ∃ n : Nat, n ≤ 4 ∧ gg = 4 - n ∧ s7 = .int .i64 n ∧ Hid (∃ q, wq = W0.drewN q) ∧ Hid (R = lexC cmpI (f.l.drop (n * 4)) (g.l.drop (n * 4))))
  case atStart => exact ⟨0, Nat.zero_le _, rfl, rfl, ⟨0, rfl⟩, HR⟩
  case round =>
    clear HR
    obtain ⟨n, hn, hk, rfl, HO, HR⟩ := hrel
    have HC : Hid (∀ m o k, o + k ≤ 20 → Calls Tryz.prog 69 #[.slice (some ⟨w.heap.size, o, none⟩) k k, .slice (some ⟨w.heap.size + 1, o, none⟩) k k] (wr.drewN m) fun e w' => e = .returned (.int .i64 (lexC cmpI ((f.l.drop o).take k) ((g.l.drop o).take k))) ∧ w' = wr.drewN m) := by
      intro m o k ho
      obtain ⟨q, rfl⟩ := HO.out
      exact scmp_part (w := (W0.drewN q).drewN m) (f := f) (g := g) (HB1.out.drewN q |>.drewN m) (HB2.out.drewN q |>.drewN m) o k ho
    rcases Nat.lt_or_ge n 4 with hlt | hge
    · have bn0 : (0 : Int) ≤ (n : Int) := by omega
      have bn1 : (n : Int) < 4 := by omega
      have hr := HR.out
      rw [fend_cut f g n hlt] at hr
      have hC := fun m => HC.out m (n * 4) 4 (by omega)
      clear HC HR
      generalize lexC cmpI ((f.l.drop (n * 4)).take 4) ((g.l.drop (n * 4)).take 4) = z at *
      by_cases h0 : z = 0
      · rw [if_pos h0] at hr
        have hb : ((z : Int) != 0) = false := by rw [h0]; rfl
        have HR2 : Hid (R = lexC cmpI (f.l.drop ((n + 1) * 4)) (g.l.drop ((n + 1) * 4))) := hr
        clear hr h0
        go_wp2
        go_quiet (exact Calls.quiet_of_same (hC _))
        go_wp2
        go_roundg (4 - (n + 1))
        case measure => omega
        case rel => exact ⟨n + 1, by omega, rfl, by go_num, more_drew HO.out nq, HR2⟩
      · rw [if_neg h0] at hr
        have hb : ((z : Int) != 0) = true := by simpa using h0
        subst hr
        clear h0
        go_wp2
        go_quiet (exact Calls.quiet_of_same (hC _))
        go_wp2
        go_ret
        exact ⟨rfl, more_drew HO.out nq⟩
    · obtain rfl : n = 4 := by omega
      have hC := fun m => HC.out m 16 4 (by omega)
      have hr := HR.out
      have e1 : (f.l.drop 16).take 4 = f.l.drop (4 * 4) := by rw [List.take_of_length_le (by rw [List.length_drop, f.h]; omega)]
      have e2 : (g.l.drop 16).take 4 = g.l.drop (4 * 4) := by rw [List.take_of_length_le (by rw [List.length_drop, g.h]; omega)]
      rw [e1, e2, ← hr] at hC
      clear HC HR hr e1 e2
      go_wp2
      go_quiet (exact Calls.quiet_of_same (hC _))
      go_wp2
      go_ret
      exact ⟨rfl, more_drew HO.out nq⟩
theorem On.drewN_of {w x : World} (h : On w x) {y : World} (e : ∃ q, y = x.drewN q) : On w y := by
  obtain ⟨q, rfl⟩ := e
  exact h.drewN q
theorem ltz (f g : FinT) : Hid (∀ w, Calls Tryz.prog 52 #[.agg (finA f), .agg (finA g)] w fun e w' => e = .returned (.int .i64 (finCmp f g)) ∧ On w w') := fun w => (fcmp_is f g w).mono fun _ _ ⟨he, hw⟩ => ⟨he, (((On.refl w).alloc _).alloc _).drewN_of hw⟩
/-- The next numbers, one by one. -/
theorem fend_one (f g : FinT) (k : Nat) (x y : Int) (hx : f.l[k]? = some x) (hy : g.l[k]? = some y) : lexC cmpI (f.l.drop k) (g.l.drop k) = if x = y then lexC cmpI (f.l.drop (k + 1)) (g.l.drop (k + 1)) else cmpI x y := by
  rw [drop_at hx, drop_at hy, lexC]
  by_cases e : x = y
  · rw [if_pos e, if_pos ((ord_int.eq x y).2 e)]
  · rw [if_neg e, if_neg (fun h => e ((ord_int.eq x y).1 h))]
theorem cmp_lt (x y : Int) (h : ¬ x = y) : decide (cmpI x y < 0) = decide (x < y) := by
  unfold cmpI
  by_cases a : x < y
  · rw [if_pos a]; simp [a]
  · rw [if_neg a, if_pos (by omega)]; simp [a]
end Go.Proofs.YtioiabfheeglgaaGreatDoor
