/- WellJumps: the law's walk. -/
import Derived.Test.YtlnofkoemhojgaaDoorAwake5
import Derived.Test.YtlnofkoemhojgaaDoorMathB
import Derived.Test.YtlnofkoemhojgaaDoorPuts
import Derived.Test.YtlnofkoemhojgaaDoorJumpsP
namespace Go.Proofs.YtlnofkoemhojgaaDoor
open Go.RowKit

theorem infoIns : (Tryd.prog.info? 37).map (fun i => (i.zero, i.size, i.bytes)) = some (some (.agg #[.int .i64 0, .int .i64 0, .int .i64 0, .int .i64 0, .int .i64 0, .int .i64 0, .int .i64 0, .int .i64 0, .int .i64 0]), 9, 72) := by kernel_rfl
theorem Rd.bk {α : Type} {C : α → List Value} {k : Nat} (hC : ∀ x, (C x).length = k) {w : World} {N : Nat} {L : List α} (h : Bk w N (L.flatMap C).toArray) (c : Nat) (hc : L.length ≤ c) (hm : L.length ≤ 9223372036854775807) : Rd C k w (.slice (some ⟨N, 0, none⟩) L.length c) L := by
  refine ⟨_, c, rfl, hc, hm, fun _ => ⟨N, 0, rfl, h.lt, fun i x j u hi hj => h.at ?_⟩⟩
  have hj' : j < k := by have := (List.getElem?_eq_some_iff.1 hj).1; rwa [hC] at this
  rw [Nat.zero_add, List.getElem?_toArray, flat_at C k hC L i j x hi hj', hj]
theorem Rd2.one {α : Type} {C : α → List Value} {k n : Nat} {w : World} {N : Nat} {L : List α} {a : Option Addr} {c : Nat} (hn : L.length = n) (h : Bk w N #[.slice a n c]) (hr : Rd C k w (.slice a L.length c) L) : Rd2 C k w (.slice (some ⟨N, 0, none⟩) 1 1) [L] := by
  subst hn
  refine ⟨[.slice a L.length c], rfl, Rd.bk (C := oneC) (fun _ => rfl) (L := [.slice a L.length c]) h 1 (Nat.le_refl _) (by simp), fun i u M hi hM => ?_⟩
  match i, hi, hM with
  | 0, hi, hM =>
    simp only [List.getElem?_cons_zero, Option.some.injEq] at hi hM
    subst hi; subst hM
    exact hr
  | i + 1, hi, _ => simp at hi
theorem cell_ins {w : World} {N : Nat} {L : List InsT} (B : Bk w N (L.flatMap insC).toArray) {j : Nat} (hj : j < L.length) : ∀ q, q < 9 → ∃ u, w.cell? ⟨N, j * 9 + q, none⟩ = some u := fun q hq => by
  obtain ⟨x, hx⟩ : ∃ x, L[j]? = some x := ⟨_, List.getElem?_eq_getElem hj⟩
  obtain ⟨u, hu⟩ : ∃ u, (insC x)[q]? = some u := ⟨_, List.getElem?_eq_getElem (by show q < 9; exact hq)⟩
  refine ⟨u, B.at ?_⟩
  rw [List.getElem?_toArray, flat_at insC 9 (fun _ => rfl) L j q x hx hq, hu]
theorem made_ins (n : Nat) : madeCells #[.int .i64 0, .int .i64 0, .int .i64 0, .int .i64 0, .int .i64 0, .int .i64 0, .int .i64 0, .int .i64 0, .int .i64 0] (n * 9) = ((List.replicate n (⟨0, 0, 0, ⟨0, 0⟩, 0, ⟨0, 0⟩, 0⟩ : InsT)).flatMap insC).toArray := by
  have hz : ∀ k, k < 9 → (#[.int .i64 0, .int .i64 0, .int .i64 0, .int .i64 0, .int .i64 0, .int .i64 0, .int .i64 0, .int .i64 0, .int .i64 0] : Array Value)[k]! = .int .i64 0 := by
    intro k hk
    match k, hk with
    | 0, _ | 1, _ | 2, _ | 3, _ | 4, _ | 5, _ | 6, _ | 7, _ | 8, _ => rfl
    | k + 9, h => omega
  have hl : (madeCells #[.int .i64 0, .int .i64 0, .int .i64 0, .int .i64 0, .int .i64 0, .int .i64 0, .int .i64 0, .int .i64 0, .int .i64 0] (n * 9)) = Array.replicate (n * 9) (.int .i64 0) := by
    unfold madeCells
    apply Array.ext
    · simp
    · intro i h1 h2
      simp only [Array.getElem_map, Array.getElem_range, Array.getElem_replicate]
      exact hz _ (Nat.mod_lt _ (by decide))
  rw [hl]
  clear hl hz
  have hf : ∀ n : Nat, (List.replicate n (⟨0, 0, 0, ⟨0, 0⟩, 0, ⟨0, 0⟩, 0⟩ : InsT)).flatMap insC = List.replicate (n * 9) (.int .i64 0) := by
    intro n
    induction n with
    | zero => rfl
    | succ n ih => rw [List.replicate_succ, List.flatMap_cons, ih, Nat.succ_mul, Nat.add_comm, ← List.replicate_append_replicate]; rfl
  rw [hf]
  simp
theorem insC_len (x : InsT) : (insC x).length = 9 := rfl
theorem iniC_len (x : InitT) : (iniC x).length = 2 := rfl
theorem two_le : 2 ≤ 9223372036854775807 := by decide
theorem nsz : (ByteArray.mk #[110]).size ≤ 9223372036854775807 := by decide
theorem put_ins {w : World} {N : Nat} {L : List InsT} (B : Bk w N (L.flatMap insC).toArray) {j : Nat} (hj : j < L.length) (x : InsT) : Bk (putCells w N (j * 9) (insC x)) N ((L.set j x).flatMap insC).toArray := by
  rw [← putAt_flat insC 9 (fun _ => rfl) L j x hj]
  exact Bk.puts _ _ _ _ B
set_option maxHeartbeats 8000000 in
set_option maxRecDepth 8000 in
theorem wellJumps_go (n0 at0 wd0 a0 b0 : Int) (w : World) (lw : Lw w) (hd : Db w) :
    Calls Tryd.prog 7 #[.int .i64 n0, .int .i64 at0, .int .i64 wd0, .int .i64 a0, .int .i64 b0] w fun e w' => e = .returned (.bool true) ∧ On w w' := by
  obtain ⟨i0, hi, hz0, hz1, hz2⟩ := info_parts infoIns
  obtain ⟨m1, hm1, p1⟩ := low8 n0
  obtain ⟨m2, hm2, p2⟩ := low8 at0
  obtain ⟨wd, hwd, q3⟩ := low4 wd0
  obtain ⟨a, ha, q4⟩ := low2 a0
  obtain ⟨b, hb, q5⟩ := low2 b0
  obtain ⟨n, hn0, hn1, q1⟩ : ∃ n : Nat, 1 ≤ n ∧ n ≤ 10 ∧ (m1 : Int) % 10 + 1 = (n : Int) := ⟨m1 % 10 + 1, by omega, by omega, by omega⟩
  obtain ⟨k, hk, q2⟩ : ∃ k : Nat, k < n ∧ (m2 : Int) % (n : Int) = (k : Int) := ⟨m2 % n, Nat.mod_lt _ (by omega), by omega⟩
  have hmk := run_make (P := Tryd.prog) w 32 37 i0 _ Tryd.underlying32 hi hz0 .i64 .i64 (n : Int) (n : Int) (by omega) (by omega) (by rw [hz2]; omega) (by omega)
  simp only [hz1, Int.toNat_natCast] at hmk
  go_enter Tryd.func7, Tryd.ntmps7
  go_wp2
  simp only [q2]
  clear q1 q2 q3 q4 q5 p1 p2 hmk
  go_loopg [12] n (fun gg s12 wr => ∃ (j : Nat) (L : List InsT), j ≤ n ∧ gg = n - j ∧ s12 = .int .i64 j ∧ Hid (On w wr) ∧ L.length = n ∧ Bk wr w.heap.size (L.flatMap insC).toArray ∧ Bk wr (w.heap.size + 1) #[.slice (some ⟨w.heap.size, 0, none⟩) n n] ∧ Bk wr (w.heap.size + 1 + 1) #[.string ⟨#[110]⟩, .slice none 0 0, .slice (some ⟨w.heap.size + 1, 0, none⟩) 1 1, .int .i64 0, .slice none 0 0] ∧ Hid (∀ i x, i < j → L[i]? = some x → x = fenceT))
  case atStart =>
    refine ⟨0, List.replicate n ⟨0, 0, 0, ⟨0, 0⟩, 0, ⟨0, 0⟩, 0⟩, Nat.zero_le _, rfl, rfl, (((On.refl w).alloc _).alloc _).alloc _, by simp, ?_, ?_, ?_, fun i x hi => absurd hi (Nat.not_lt_zero _)⟩
    · rw [← made_ins]; exact ((Bk.new w _ _).alloc _).alloc _
    · have := (Bk.new (w.alloc (.cells (madeCells #[.int .i64 0, .int .i64 0, .int .i64 0, .int .i64 0, .int .i64 0, .int .i64 0, .int .i64 0, .int .i64 0, .int .i64 0] (n * 9)) 37)) #[.slice (some ⟨w.heap.size, 0, none⟩) n n] 32)
      rw [World.size_alloc] at this
      exact this.alloc _
    · have := (Bk.new ((w.alloc (.cells (madeCells #[.int .i64 0, .int .i64 0, .int .i64 0, .int .i64 0, .int .i64 0, .int .i64 0, .int .i64 0, .int .i64 0, .int .i64 0] (n * 9)) 37)).alloc (.cells #[.slice (some ⟨w.heap.size, 0, none⟩) n n] 32)) #[.string ⟨#[110]⟩, .slice none 0 0, .slice (some ⟨w.heap.size + 1, 0, none⟩) 1 1, .int .i64 0, .slice none 0 0] 29)
      rw [World.size_alloc, World.size_alloc] at this
      exact this
  case round =>
    obtain ⟨j, L, hj, hg, rfl, HO, hL, B0, B1, B2, HF⟩ := hrel
    have x1 := B1.at (i := 0) rfl
    have y2 := B2.at (i := 2) rfl
    have l0 := B0.lt
    have l1 := B1.lt
    have l2 := B2.lt
    have f0 := fun i => B0.fr i
    rcases Nat.lt_or_ge j n with hlt | hge
    · have HB0 : Hid (Bk (putCells wr w.heap.size (j * 9) (insC fenceT)) w.heap.size ((L.set j fenceT).flatMap insC).toArray) := put_ins B0 (by omega) fenceT
      have HB1 : Hid (Bk (putCells wr w.heap.size (j * 9) (insC fenceT)) (w.heap.size + 1) _) := Bk.fars (by omega) _ _ _ _ B1
      have HB2 : Hid (Bk (putCells wr w.heap.size (j * 9) (insC fenceT)) (w.heap.size + 1 + 1) _) := Bk.fars (by omega) _ _ _ _ B2
      have HOn : Hid (On w (putCells wr w.heap.size (j * 9) (insC fenceT))) := On.puts (Nat.le_refl _) _ _ _ HO.out
      obtain ⟨v0, e0⟩ := cell_ins B0 (j := j) (by omega) 0 (by decide)
      obtain ⟨v1, e1⟩ := cell_ins B0 (j := j) (by omega) 1 (by decide)
      obtain ⟨v2, e2⟩ := cell_ins B0 (j := j) (by omega) 2 (by decide)
      obtain ⟨v3, e3⟩ := cell_ins B0 (j := j) (by omega) 3 (by decide)
      obtain ⟨v4, e4⟩ := cell_ins B0 (j := j) (by omega) 4 (by decide)
      obtain ⟨v5, e5⟩ := cell_ins B0 (j := j) (by omega) 5 (by decide)
      obtain ⟨v6, e6⟩ := cell_ins B0 (j := j) (by omega) 6 (by decide)
      obtain ⟨v7, e7⟩ := cell_ins B0 (j := j) (by omega) 7 (by decide)
      obtain ⟨v8, e8⟩ := cell_ins B0 (j := j) (by omega) 8 (by decide)
      rw [Nat.add_zero] at e0
      clear B0 B1 B2
      go_wp2
      go_roundg (n - (j + 1))
      case measure => omega
      case rel =>
        refine ⟨j + 1, L.set j fenceT, by omega, rfl, by go_num, HOn.out, by rw [List.length_set]; exact hL, HB0.out, HB1.out, HB2.out, fun i x hi hx => ?_⟩
        rw [List.getElem?_set] at hx
        split at hx
        · rename_i h
          split at hx
          · cases hx; rfl
          · cases hx
        · exact HF.out i x (by omega) hx
    · obtain rfl : j = n := by omega
      have hLr := all_fence hL HF.out
      subst hLr
      clear HF hg hj hL
      obtain ⟨v0, e0⟩ := cell_ins B0 (j := k) (by simpa using hk) 0 (by decide)
      obtain ⟨v1, e1⟩ := cell_ins B0 (j := k) (by simpa using hk) 1 (by decide)
      obtain ⟨v2, e2⟩ := cell_ins B0 (j := k) (by simpa using hk) 2 (by decide)
      obtain ⟨v3, e3⟩ := cell_ins B0 (j := k) (by simpa using hk) 3 (by decide)
      obtain ⟨v4, e4⟩ := cell_ins B0 (j := k) (by simpa using hk) 4 (by decide)
      obtain ⟨v5, e5⟩ := cell_ins B0 (j := k) (by simpa using hk) 5 (by decide)
      obtain ⟨v6, e6⟩ := cell_ins B0 (j := k) (by simpa using hk) 6 (by decide)
      obtain ⟨v7, e7⟩ := cell_ins B0 (j := k) (by simpa using hk) 7 (by decide)
      obtain ⟨v8, e8⟩ := cell_ins B0 (j := k) (by simpa using hk) 8 (by decide)
      rw [Nat.add_zero] at e0
      have C0 : Hid (Bk (putCells wr w.heap.size (k * 9) (insC (skipT wd))) w.heap.size (((List.replicate j fenceT).set k (skipT wd)).flatMap insC).toArray) := put_ins B0 (by simpa using hk) (skipT wd)
      have C1 : Hid (Bk (putCells wr w.heap.size (k * 9) (insC (skipT wd))) (w.heap.size + 1) _) := Bk.fars (by omega) _ _ _ _ B1
      have C2 : Hid (Bk (putCells wr w.heap.size (k * 9) (insC (skipT wd))) (w.heap.size + 1 + 1) _) := Bk.fars (by omega) _ _ _ _ B2
      have CO : Hid (On w (putCells wr w.heap.size (k * 9) (insC (skipT wd)))) := On.puts (Nat.le_refl _) _ _ _ HO.out
      have y0 := B2.at (i := 0) rfl
      have y1 := B2.at (i := 1) rfl
      have y3 := B2.at (i := 3) rfl
      have y4 := B2.at (i := 4) rfl
      have hJ := jump_all ⟨j, by omega⟩ ⟨k, by omega⟩ ⟨wd, hwd⟩ hn0 hk
      have hT := twice_all ⟨j, by omega⟩ ⟨a, ha⟩ ⟨b, hb⟩ hn0
      simp only at hJ hT
      obtain ⟨want, hwant⟩ : ∃ want : Int, want = if wd = 0 ∨ j < k + 1 + wd then 10 else 0 := ⟨_, rfl⟩
      rw [← hwant] at hJ
      clear B0 B1 B2 HO
      obtain ⟨hw1, hw2⟩ | ⟨hw1, hw2, hw3⟩ | ⟨hw1, hw2, hw3⟩ : (((wd : Int) == 0) = true ∧ want = 10) ∨ (((wd : Int) == 0) = false ∧ (j : Int) < k + 1 + wd ∧ want = 10) ∨ (((wd : Int) == 0) = false ∧ ¬ (j : Int) < k + 1 + wd ∧ want = 0) := by
        by_cases h1 : wd = 0
        · left; exact ⟨by simp [h1], by rw [hwant, if_pos (Or.inl h1)]⟩
        · by_cases h2 : j < k + 1 + wd
          · right; left; exact ⟨by simpa using h1, by omega, by rw [hwant, if_pos (Or.inr h2)]⟩
          · right; right; exact ⟨by simpa using h1, by omega, by rw [hwant, if_neg (by omega)]⟩
      all_goals
        clear hwant
        first | subst hw3 | subst hw2
        have hlen : ((List.replicate j fenceT).set k (skipT wd)).length = j := by simp
        have hRd : Rd insC 9 _ (.slice (some ⟨w.heap.size, 0, none⟩) ((List.replicate j fenceT).set k (skipT wd)).length j) ((List.replicate j fenceT).set k (skipT wd)) := Rd.bk (C := insC) (k := 9) insC_len C0.out j (Nat.le_of_eq hlen) (by rw [hlen]; omega)
        have hCk := fun (W : World) (hW : W = putCells wr w.heap.size (k * 9) (insC (skipT wd))) => hW ▸ check_is ⟨⟨#[110]⟩, [], [(List.replicate j fenceT).set k (skipT wd)], ⟨0, []⟩⟩ (.agg #[.string ⟨#[110]⟩, .slice none 0 0, .slice (some ⟨w.heap.size + 1, 0, none⟩) 1 1, .int .i64 0, .slice none 0 0]) _ (lw.on CO.out) ⟨none, 0, _, 1, none, 0, rfl, nsz, Rd.nil _ _ _, Rd2.one hlen C1.out hRd, Rd2.nil _ _ _⟩
        simp only [hJ] at hCk
        clear hlen hJ hRd
        go_wp2_with fail
        refine (hCk _ ?_).mono ?_
        · rfl
        rintro e w1 ⟨rfl, k1'⟩
        have k1 : On (putCells wr w.heap.size (k * 9) (insC (skipT wd))) w1 := k1'
        clear k1'
        have D0 := C0.out.on k1
        have D1 := C1.out.on k1
        have D2 := C2.out.on k1
        have DO : Hid (On w w1) := CO.out.trans k1
        clear hCk C0 C1 C2 CO k1 e0 e1 e2 e3 e4 e5 e6 e7 e8 x1 y0 y1 y2 y3 y4 f0 l0 l1 l2
        have E0 : Hid (Bk (putCells w1 w.heap.size (k * 9) (insC fenceT)) w.heap.size ((List.replicate j fenceT).flatMap insC).toArray) := by
          have := put_ins D0 (by simpa using hk) fenceT
          rw [set_back] at this
          exact this
        have E1 : Hid (Bk (putCells w1 w.heap.size (k * 9) (insC fenceT)) (w.heap.size + 1) _) := Bk.fars (by omega) _ _ _ _ D1
        have E2 : Hid (Bk (putCells w1 w.heap.size (k * 9) (insC fenceT)) (w.heap.size + 1 + 1) _) := Bk.fars (by omega) _ _ _ _ D2
        have EO : Hid (On w (putCells w1 w.heap.size (k * 9) (insC fenceT))) := On.puts (Nat.le_refl _) _ _ _ DO.out
        have x1 := D1.at (i := 0) rfl
        have y0 := D2.at (i := 0) rfl
        have y1 := D2.at (i := 1) rfl
        have y2 := D2.at (i := 2) rfl
        have y3 := D2.at (i := 3) rfl
        have y4 := D2.at (i := 4) rfl
        have f0 := fun i => D0.fr i
        have f2 := fun i => D2.fr i
        have l0 := D0.lt
        have l1 := D1.lt
        have l2 := D2.lt
        obtain ⟨v0, e0⟩ := cell_ins D0 (j := k) (by simpa using hk) 0 (by decide)
        obtain ⟨v1, e1⟩ := cell_ins D0 (j := k) (by simpa using hk) 1 (by decide)
        obtain ⟨v2, e2⟩ := cell_ins D0 (j := k) (by simpa using hk) 2 (by decide)
        obtain ⟨v3, e3⟩ := cell_ins D0 (j := k) (by simpa using hk) 3 (by decide)
        obtain ⟨v4, e4⟩ := cell_ins D0 (j := k) (by simpa using hk) 4 (by decide)
        obtain ⟨v5, e5⟩ := cell_ins D0 (j := k) (by simpa using hk) 5 (by decide)
        obtain ⟨v6, e6⟩ := cell_ins D0 (j := k) (by simpa using hk) 6 (by decide)
        obtain ⟨v7, e7⟩ := cell_ins D0 (j := k) (by simpa using hk) 7 (by decide)
        obtain ⟨v8, e8⟩ := cell_ins D0 (j := k) (by simpa using hk) 8 (by decide)
        rw [Nat.add_zero] at e0
        clear D0 D1 D2 DO
        have hWs : ((putCells w1 w.heap.size (k * 9) (insC fenceT)).setCell ⟨w.heap.size + 1 + 1, 1, none⟩ (.slice (some ⟨w1.heap.size, 0, none⟩) 2 2)).heap.size = w1.heap.size := by rw [size_set, size_puts]
        obtain ⟨W3, hW3⟩ : ∃ W3, W3 = ((putCells w1 w.heap.size (k * 9) (insC fenceT)).setCell ⟨w.heap.size + 1 + 1, 1, none⟩ (.slice (some ⟨w1.heap.size, 0, none⟩) 2 2)).alloc (.cells #[.int .i64 (97 + (a : Int)), .int .i64 0, .int .i64 (97 + (b : Int)), .int .i64 3] 44) := ⟨_, rfl⟩
        have F0 : Bk W3 w.heap.size ((List.replicate j fenceT).flatMap insC).toArray := by rw [hW3]; exact (E0.out.far (by omega) _ _).alloc _
        have F1 : Bk W3 (w.heap.size + 1) #[.slice (some ⟨w.heap.size, 0, none⟩) j j] := by rw [hW3]; exact (E1.out.far (by omega) _ _).alloc _
        have F3 : Bk W3 w1.heap.size #[.int .i64 (97 + (a : Int)), .int .i64 0, .int .i64 (97 + (b : Int)), .int .i64 3] := by
          have := Bk.new ((putCells w1 w.heap.size (k * 9) (insC fenceT)).setCell ⟨w.heap.size + 1 + 1, 1, none⟩ (.slice (some ⟨w1.heap.size, 0, none⟩) 2 2)) #[.int .i64 (97 + (a : Int)), .int .i64 0, .int .i64 (97 + (b : Int)), .int .i64 3] 44
          rw [hWs] at this
          rw [hW3]; exact this
        have FO : Hid (On w W3) := by
          show On w W3
          rw [hW3]; exact (EO.out.setNew (by omega) _).alloc _
        have hln : (List.replicate j fenceT).length = j := by simp
        have hR3 : Rd insC 9 W3 (.slice (some ⟨w.heap.size, 0, none⟩) (List.replicate j fenceT).length j) (List.replicate j fenceT) := Rd.bk (C := insC) (k := 9) insC_len F0 j (Nat.le_of_eq hln) (by rw [hln]; omega)
        have hC3 := check_is ⟨⟨#[110]⟩, [⟨97 + (a : Int), 0⟩, ⟨97 + (b : Int), 3⟩], [List.replicate j fenceT], ⟨0, []⟩⟩ (.agg #[.string ⟨#[110]⟩, .slice (some ⟨w1.heap.size, 0, none⟩) 2 2, .slice (some ⟨w.heap.size + 1, 0, none⟩) 1 1, .int .i64 0, .slice none 0 0]) W3 (lw.on FO.out) ⟨_, 2, _, 1, none, 0, rfl, nsz, Rd.bk (C := iniC) (k := 2) iniC_len (L := [⟨97 + (a : Int), 0⟩, ⟨97 + (b : Int), 3⟩]) F3 2 (Nat.le_refl _) two_le, Rd2.one hln F1 hR3, Rd2.nil _ _ _⟩
        have hC4 := fun (W : World) (hW : W = W3) => hW ▸ hC3
        rw [hW3] at hC4
        have hAw := fun (W : World) (o : On W3 W) => awake5_is W (lw.on (FO.out.trans o)) (hd.on (FO.out.trans o))
        clear hR3 hln F0 F1 F3 hWs E0 E1 E2 EO hC3
        obtain ⟨hab, hT2⟩ | ⟨hab, hT2⟩ : (((a : Int) == b) = true ∧ (if a = b then (9 : Int) else 0) = 9) ∨ (((a : Int) == b) = false ∧ (if a = b then (9 : Int) else 0) = 0) := by
          by_cases h : a = b
          · left; exact ⟨by simp [h], by rw [if_pos h]⟩
          · right; exact ⟨by simpa using (by omega : ¬ (a : Int) = b), by rw [if_neg h]⟩
        all_goals
          rw [hT2] at hT
          simp only [hT] at hC4
          clear hT hT2
          go_wp2_with fail
          refine (hC4 _ ?_).mono ?_
          · rfl
          rintro e w2 ⟨rfl, k2'⟩
          have k2 : On W3 w2 := by rw [hW3]; exact k2'
          clear k2'
          go_wp2_with fail
          refine (hAw _ k2).mono ?_
          rintro e w3 ⟨rfl, k3⟩
          go_wp2
          go_ret
          exact ⟨rfl, FO.out.trans (k2.trans k3)⟩
end Go.Proofs.YtlnofkoemhojgaaDoor
