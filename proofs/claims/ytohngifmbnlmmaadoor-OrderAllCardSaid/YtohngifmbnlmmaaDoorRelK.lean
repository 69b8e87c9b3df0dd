/- A relation made of pairs: the program's and the document's. -/
import Derived.Test.YtohngifmbnlmmaaDoorRelJ
namespace Go.Proofs.YtohngifmbnlmmaaDoor
open Go.RowKit

def pairC (p : Int × Int) : List Value := [.int .i64 p.1, .int .i64 p.2]
def ofL (r : RelT) (L : List (Int × Int)) : RelT := L.foldl (fun r p => addR r p.1 p.2) r
def ofR (n : Int) (L : List (Int × Int)) : RelT := ofL (newR n) (L.take 200)
theorem new_wr (n : Int) : Wr (newR n) := ⟨Nat.min_le_right _ _, fun _ => by show 0 < _; decide⟩
theorem ofL_wr : ∀ (L : List (Int × Int)) (r : RelT), Wr r → Wr (ofL r L)
  | [], _, h => h
  | p :: L, _, h => ofL_wr L _ (add_wr h p.1 p.2)
theorem ofL_n : ∀ (L : List (Int × Int)) (r : RelT), (ofL r L).n = r.n
  | [], _ => rfl
  | p :: L, r => (ofL_n L _).trans (add_n r p.1 p.2)
theorem of_wr (n : Int) (L : List (Int × Int)) : Wr (ofR n L) := ofL_wr _ _ (new_wr n)
theorem of_n (n : Int) (L : List (Int × Int)) : (ofR n L).n = min n.toNat 64 := ofL_n _ _
theorem pairs_at {α : Type} {L : List α} {n : Nat} (h : n < L.length) : ∃ x, L[n]? = some x ∧ L.drop n = x :: L.drop (n + 1) :=
  ⟨L[n], List.getElem?_eq_getElem h, List.drop_eq_getElem_cons h⟩
theorem two65w {fn : Func} {q p : Tmp} {tmps : Array Value} {w : World} {N M : Nat} {r o : RelT} (hf : fn.results = #[.cell q 27, .cell p 30]) (hp : tmps.getD q undef = .pointer (some ⟨N, 0, none⟩)) (hq : tmps.getD p undef = .pointer (some ⟨M, 0, none⟩)) (h : Bk w N (relA r)) (k : Bk w M (relA o)) :
    (results fn tmps).run Tryd.prog w = .ok (.tuple #[.agg (relA r), .agg (relA o)]) w := by
  obtain ⟨T, e⟩ := h
  obtain ⟨T', e'⟩ := k
  obtain ⟨_, hi⟩ := zero_of_info rel_info
  obtain ⟨_, hi'⟩ := zero_of_info rel_infow
  have l1 := run_loadVar_row (P := Tryd.prog) w N T 27 (relA r) (0, 0) _ e Tryd.underlying27 rfl (by rw [hi, relA_size])
  have l2 := run_loadVar_row (P := Tryd.prog) w M T' 30 (relA o) (0, 0) _ e' Tryd.underlying30 rfl (by rw [hi', relA_size])
  have hp' : tmps[q]?.getD undef = .pointer (some ⟨N, 0, none⟩) := by simpa using hp
  have hq' : tmps[p]?.getD undef = .pointer (some ⟨M, 0, none⟩) := by simpa using hq
  simp [results, hf, hp', hq', asAddr, l1, l2]
set_option maxHeartbeats 8000000 in
set_option maxRecDepth 8000 in
theorem pairs_is (n : Int) (L : List (Int × Int)) (v : Value) (w : World) (h : Rd pairC 2 w v L) :
    Calls Tryd.prog 9 #[.int .i64 n, v] w fun e w' => e = .returned (.tuple #[.agg (relA (ofR n L)), .agg (relA (ofR n L))]) ∧ On w w' := by
  obtain ⟨ao, cc, rfl, hcap, hmax⟩ := h.slice
  have HR : Hid (Rd pairC 2 w (.slice ao L.length cc) L) := h
  clear h hcap
  obtain ⟨hz, _⟩ := zero_of_info rel_info
  obtain ⟨hzw, _⟩ := zero_of_info rel_infow
  have hs : (relA zeroR).size = 65 := relA_size _
  have hne := rel_ne zeroR
  have hnew := fun W => new_is n W
  obtain ⟨U, hU⟩ : ∃ U, U = ofR n L := ⟨_, rfl⟩
  rw [← hU]
  have HU : Hid (U = ofL (newR n) ((L.take 200).drop 0)) := hU
  clear hU
  obtain ⟨K, hK⟩ : ∃ K, K = L.take 200 := ⟨_, rfl⟩
  have hKl : K.length = min 200 L.length := by rw [hK, List.length_take]
  have HKA : Hid (∀ i x, K[i]? = some x → L[i]? = some x ∧ i < 200 ∧ i < L.length) := fun i x hx => by
    rw [hK, List.getElem?_take] at hx
    split at hx
    · rename_i hi
      exact ⟨hx, hi, (List.getElem?_eq_some_iff.1 hx).1⟩
    · cases hx
  rw [← hK] at HU
  clear hK
  have HNW : Hid (Wr (newR n)) := new_wr n
  have hset : ∀ (m : Nat), newR n = ⟨m, fun _ => 0⟩ → (relA zeroR).toList.set 0 (.int .i64 m) = (relA (newR n)).toList := by
    intro m hm; rw [hm]; rfl
  have hnn : (newR n).n = min n.toNat 64 := rfl
  obtain ⟨Z, hZ⟩ : ∃ Z, Z = newR n := ⟨_, rfl⟩
  have hZm : ∀ m : Nat, min n.toNat 64 = m → newR n = ⟨m, fun _ => 0⟩ := by intro m hm; unfold newR; rw [hm]
  rw [← hZ] at hnew HU HNW hset hnn hZm
  clear hZ
  have k0 := ((On.refl w).alloc (.cells (relA zeroR) 27)).alloc (.cells (relA zeroR) 30)
  have g4 : Bk ((w.alloc (.cells (relA zeroR) 27)).alloc (.cells (relA zeroR) 30)) w.heap.size (relA zeroR) := (Bk.new w (relA zeroR) 27).alloc _
  have g5 : Bk ((w.alloc (.cells (relA zeroR) 27)).alloc (.cells (relA zeroR) 30)) (w.heap.size + 1) (relA zeroR) := by
    have := Bk.new (w.alloc (.cells (relA zeroR) 27)) (relA zeroR) 30
    rwa [World.size_alloc] at this
  have hsz := size2 w (.cells (relA zeroR) 27) (.cells (relA zeroR) 30)
  by_cases hn0 : n < 0
  · have hb := hset 0 (hZm 0 (by omega))
    have hb' : (relA zeroR).toList.set 0 (.int .i64 0) = (relA Z).toList := hb
    clear hb
    go_enter Tryd.func9, Tryd.ntmps9
    go_wp2_with fail
    refine (hnew _).mono ?_
    rintro _ w1 ⟨rfl, k1⟩
    have hs1 : w.heap.size + 2 ≤ w1.heap.size := by have := k1.size; omega
    have B6 := Bk.new w1 (relA zeroR) 27
    obtain ⟨W6, hW6⟩ : ∃ W6, W6 = (w1.alloc (.cells (relA zeroR) 27)).setRow w1.heap.size (relA Z) := ⟨_, rfl⟩
    have C6 : Bk W6 w1.heap.size (relA Z) := by rw [hW6]; exact B6.row _
    have C4 : Bk W6 w.heap.size (relA zeroR) := by rw [hW6]; exact ((g4.on k1).alloc _).rowFar (by omega) _
    have C5 : Bk W6 (w.heap.size + 1) (relA zeroR) := by rw [hW6]; exact ((g5.on k1).alloc _).rowFar (by omega) _
    have K6 : On w W6 := by rw [hW6]; exact ((k0.trans k1).alloc _).row (by omega) _
    have hsz6 : W6.heap.size = w1.heap.size + 1 := by rw [hW6, size_setRow, World.size_alloc]
    have B7 := Bk.new W6 (relA zeroR) 30
    have hst : (storeCells ⟨W6.heap.size, 0, none⟩ (relA Z).toList).run Tryd.prog (W6.alloc (.cells (relA zeroR) 30)) = .ok () ((W6.alloc (.cells (relA zeroR) 30)).setRow W6.heap.size (relA Z)) := st65 B7 (relA_size _) (relA_size _) (relA_one _)
    obtain ⟨W7, hW7⟩ : ∃ W7, W7 = (W6.alloc (.cells (relA zeroR) 30)).setRow W6.heap.size (relA Z) := ⟨_, rfl⟩
    have D7 : Bk W7 (w1.heap.size + 1) (relA Z) := by rw [hW7, ← hsz6]; exact B7.row _
    have D6 : Bk W7 w1.heap.size (relA Z) := by rw [hW7]; exact (C6.alloc _).rowFar (by omega) _
    have D4 : Bk W7 w.heap.size (relA zeroR) := by rw [hW7]; exact (C4.alloc _).rowFar (by omega) _
    have D5 : Bk W7 (w.heap.size + 1) (relA zeroR) := by rw [hW7]; exact (C5.alloc _).rowFar (by omega) _
    have K7 : On w W7 := by rw [hW7]; exact (K6.alloc _).row (by omega) _
    rw [← hW7, hsz6] at hst
    clear hW7
    clear g4 g5 C4 C5 C6 K6 k0 hsz hset hZm
    go_wp2_with (first | (refine wpList_st rfl rfl rfl rfl B6 ?_; rw [← hW6]; clear B6 hW6))
    clear hst B7
    go_loopg [8] K.length (fun gg s8 wr => ∃ (i : Nat) (r : RelT), i ≤ K.length ∧ gg = K.length - i ∧ s8 = .int .i64 i ∧ Hid (On w wr) ∧ Hid (Wr r) ∧ r.n = min n.toNat 64 ∧ Bk wr w.heap.size (relA zeroR) ∧ Bk wr (w.heap.size + 1) (relA zeroR) ∧ Bk wr w1.heap.size (relA r) ∧ Bk wr (w1.heap.size + 1) (relA r) ∧ Hid (U = ofL r (K.drop i)))
    case atStart => exact ⟨0, Z, Nat.zero_le _, rfl, rfl, K7, HNW, hnn, D4, D5, D6, D7, HU⟩
    case round =>
      clear D4 D5 D6 D7 K7 HU HNW hnew hnn
      obtain ⟨i, r, hi, hk, rfl, HO, HW, hrn, E4, E5, E6, E7, HU⟩ := hrel
      rcases Nat.lt_or_ge i K.length with hlt | hge
      · obtain ⟨⟨a, b⟩, hx, hdr⟩ := pairs_at hlt
        obtain ⟨hxL, hi200, hiL⟩ := HKA.out i _ hx
        obtain ⟨g, off, rfl, hg, u0⟩ := (HR.out.on HO.out).at hxL
        have hc0 := u0 0 _ rfl
        have hc1 := u0 1 _ rfl
        simp only [Nat.add_zero] at hc0
        have hadd := fun W => add_is r HW.out a b W
        have HW2 : Hid (Wr (addR r a b)) := add_wr HW.out a b
        have hn2 := add_n r a b
        rw [hrn] at hn2
        have HU2 : Hid (U = ofL (addR r a b) (K.drop (i + 1))) := by
          show U = _
          rw [HU.out, hdr]
          rfl
        have hwad := fun (a' b' : Nat) (ea : a = a') (eb : b = b') (ha : a' < r.n) (hb : b' < r.n) W (hB : Bk W (w1.heap.size + 1) (relA r)) => wadd_is r HW.out (w1.heap.size + 1) a' b' ha hb W hB
        have hno : ¬ (0 ≤ a ∧ a < r.n ∧ 0 ≤ b ∧ b < r.n) → addR r a b = r := fun hh => by
          unfold addR overR
          rw [if_neg]
          simp
          omega
        clear u0 hx hdr hxL HU
        obtain ⟨A, hA⟩ : ∃ A, A = addR r a b := ⟨_, rfl⟩
        rw [← hA] at hadd HW2 hn2 HU2 hno
        have HAE : Hid (A = addR r a b) := hA
        clear hA
        go_wp2
        go_quiet (fail)
        by_cases ha0 : a < 0
        · obtain ⟨wq, hwq⟩ : ∃ wq, wq = wr.drewN nq := ⟨_, rfl⟩
          have kq : On wr wq := by rw [hwq]; exact (On.refl wr).drewN nq
          have F4 := E4.on kq
          have F5 := E5.on kq
          have F6 := E6.on kq
          have F7 := E7.on kq
          have KO := HO.out.trans kq
          rw [← hwq]
          clear hwq hc0 hc1 E4 E5 E6 E7
          go_wp2_with (refine wpList_ld rfl rfl rfl F6 ?_)
          refine (hadd _).mono ?_
          rintro _ w2 ⟨rfl, k2⟩
          have hs2 : w1.heap.size + 1 < w2.heap.size := (F7.on k2).lt
          have G4 := (F4.on k2).rowFar (N := w1.heap.size) (by omega) (relA A)
          have G5 := (F5.on k2).rowFar (N := w1.heap.size) (by omega) (relA A)
          have G6' := F6.on k2
          have G6 := G6'.row (relA A)
          have G7 := (F7.on k2).rowFar (N := w1.heap.size) (by omega) (relA A)
          have KG := (KO.trans k2).row (N := w1.heap.size) (by omega) (relA A)
          obtain ⟨W2, hW2⟩ : ∃ W2, W2 = w2.setRow w1.heap.size (relA A) := ⟨_, rfl⟩
          rw [← hW2] at G4 G5 G6 G7 KG
          have HW3 : Hid (W2 = w2.setRow w1.heap.size (relA A)) := hW2
          clear hW2
          have hcn := G7.at (relA_zero r)
          have hcl := G7.lt
          have hn6 := HW.out.n
          have e := hno (by omega)
          rw [← e] at G7
          clear e hno hwad HAE
          go_wp2_with (first | (refine wpList_st rfl rfl rfl rfl G6' ?_; rw [← HW3.out]; clear HW3 G6'))
          go_roundg (K.length - (i + 1))
          case measure => omega
          case rel => exact ⟨i + 1, A, hlt, rfl, by congr 1, KG, HW2, hn2, G4, G5, G6, G7, HU2⟩
        · by_cases ha1 : (r.n : Int) ≤ a
          · obtain ⟨wq, hwq⟩ : ∃ wq, wq = wr.drewN nq := ⟨_, rfl⟩
            have kq : On wr wq := by rw [hwq]; exact (On.refl wr).drewN nq
            have F4 := E4.on kq
            have F5 := E5.on kq
            have F6 := E6.on kq
            have F7 := E7.on kq
            have KO := HO.out.trans kq
            rw [← hwq]
            clear hwq hc0 hc1 E4 E5 E6 E7
            go_wp2_with (refine wpList_ld rfl rfl rfl F6 ?_)
            refine (hadd _).mono ?_
            rintro _ w2 ⟨rfl, k2⟩
            have hs2 : w1.heap.size + 1 < w2.heap.size := (F7.on k2).lt
            have G4 := (F4.on k2).rowFar (N := w1.heap.size) (by omega) (relA A)
            have G5 := (F5.on k2).rowFar (N := w1.heap.size) (by omega) (relA A)
            have G6' := F6.on k2
            have G6 := G6'.row (relA A)
            have G7 := (F7.on k2).rowFar (N := w1.heap.size) (by omega) (relA A)
            have KG := (KO.trans k2).row (N := w1.heap.size) (by omega) (relA A)
            obtain ⟨W2, hW2⟩ : ∃ W2, W2 = w2.setRow w1.heap.size (relA A) := ⟨_, rfl⟩
            rw [← hW2] at G4 G5 G6 G7 KG
            have HW3 : Hid (W2 = w2.setRow w1.heap.size (relA A)) := hW2
            clear hW2
            have hcn := G7.at (relA_zero r)
            have hcl := G7.lt
            have hn6 := HW.out.n
            have e := hno (by omega)
            rw [← e] at G7
            clear e hno hwad HAE
            go_wp2_with (first | (refine wpList_st rfl rfl rfl rfl G6' ?_; rw [← HW3.out]; clear HW3 G6'))
            go_roundg (K.length - (i + 1))
            case measure => omega
            case rel => exact ⟨i + 1, A, hlt, rfl, by congr 1, KG, HW2, hn2, G4, G5, G6, G7, HU2⟩
          · exfalso
            omega
      · obtain rfl : i = K.length := by omega
        obtain rfl : U = r := by rw [HU.out, List.drop_length]; rfl
        clear HU
        have hge2 : ¬ (K.length < L.length ∧ K.length < 200) := by omega
        by_cases hl : K.length < L.length
        · have hl2 : ¬ K.length < 200 := by omega
          go_wp2
          have q0 : (Bk wr.drew w1.heap.size (relA U) ∧ Bk wr.drew (w1.heap.size + 1) (relA U)) ∧ (∃ q, Bk wr.drew w.heap.size (relA q)) ∧ (∃ q, Bk wr.drew (w.heap.size + 1) (relA q)) := ⟨⟨E6, E7⟩, ⟨_, E4⟩, ⟨_, E5⟩⟩
          refine region_fin (fun W => (Bk W w1.heap.size (relA U) ∧ Bk W (w1.heap.size + 1) (relA U)) ∧ (∃ q, Bk W w.heap.size (relA q)) ∧ (∃ q, Bk W (w.heap.size + 1) (relA q))) 99 4 (by kernel_rfl) rfl ?_
          refine fin_take 0 (v := .agg (relA U)) rfl (by kernel_rfl) (by kernel_rfl) (by kernel_rfl) (by kernel_rfl) (fun _ _ _ h => h) rfl (fun W hW => exec_ld rfl rfl (hW.1.1)) q0 ?_
          simp only [Act.put, List.setIfInBounds_toArray, List.set_cons_zero, List.set_cons_succ]
          refine fin_take 1 (v := .agg (relA U)) rfl (by kernel_rfl) (by kernel_rfl) (by kernel_rfl) (by kernel_rfl) (fun _ _ _ h => h) rfl (fun W hW => exec_ldw rfl rfl (hW.1.2)) q0 ?_
          simp only [Act.put, List.setIfInBounds_toArray, List.set_cons_zero, List.set_cons_succ]
          refine fin_one 2 rfl rfl (by kernel_rfl) (fun K hK => ?_)
          refine wp_st rfl rfl rfl E4.drew ?_
          refine hK.out _ _ (fun _ => ⟨⟨q0.1.1.rowFar (by omega) _, q0.1.2.rowFar (by omega) _⟩, ⟨_, E4.drew.row _⟩, ⟨_, E5.drew.rowFar (by omega) _⟩⟩) ?_
          clear hK
          refine fin_one 3 rfl rfl (by kernel_rfl) (fun K hK => ?_)
          refine wp_stw rfl rfl rfl (E5.drew.rowFar (N := w.heap.size) (by omega) _) ?_
          refine hK.out _ _ (fun _ => ⟨⟨(q0.1.1.rowFar (by omega) _).rowFar (by omega) _, (q0.1.2.rowFar (by omega) _).rowFar (by omega) _⟩, ⟨_, (E4.drew.row _).rowFar (by omega) _⟩, ⟨_, (E5.drew.rowFar (N := w.heap.size) (by omega) _).row _⟩⟩) ?_
          clear hK
          refine fin_done (by kernel_rfl) (NoPanic.normal ?_)
          go_wp2
          refine bodyPost_ret (v := .tuple #[.agg (relA U), .agg (relA U)]) ?_ rfl ⟨rfl, (HO.out.drew.row (by omega) _).row (by omega) _⟩
          exact two65w rfl rfl rfl ((E4.drew.row _).rowFar (by omega) _) ((E5.drew.rowFar (N := w.heap.size) (by omega) _).row _)
        · skip
          go_wp2
          have q0 : (Bk wr.drew w1.heap.size (relA U) ∧ Bk wr.drew (w1.heap.size + 1) (relA U)) ∧ (∃ q, Bk wr.drew w.heap.size (relA q)) ∧ (∃ q, Bk wr.drew (w.heap.size + 1) (relA q)) := ⟨⟨E6, E7⟩, ⟨_, E4⟩, ⟨_, E5⟩⟩
          refine region_fin (fun W => (Bk W w1.heap.size (relA U) ∧ Bk W (w1.heap.size + 1) (relA U)) ∧ (∃ q, Bk W w.heap.size (relA q)) ∧ (∃ q, Bk W (w.heap.size + 1) (relA q))) 99 4 (by kernel_rfl) rfl ?_
          refine fin_take 0 (v := .agg (relA U)) rfl (by kernel_rfl) (by kernel_rfl) (by kernel_rfl) (by kernel_rfl) (fun _ _ _ h => h) rfl (fun W hW => exec_ld rfl rfl (hW.1.1)) q0 ?_
          simp only [Act.put, List.setIfInBounds_toArray, List.set_cons_zero, List.set_cons_succ]
          refine fin_take 1 (v := .agg (relA U)) rfl (by kernel_rfl) (by kernel_rfl) (by kernel_rfl) (by kernel_rfl) (fun _ _ _ h => h) rfl (fun W hW => exec_ldw rfl rfl (hW.1.2)) q0 ?_
          simp only [Act.put, List.setIfInBounds_toArray, List.set_cons_zero, List.set_cons_succ]
          refine fin_one 2 rfl rfl (by kernel_rfl) (fun K hK => ?_)
          refine wp_st rfl rfl rfl E4.drew ?_
          refine hK.out _ _ (fun _ => ⟨⟨q0.1.1.rowFar (by omega) _, q0.1.2.rowFar (by omega) _⟩, ⟨_, E4.drew.row _⟩, ⟨_, E5.drew.rowFar (by omega) _⟩⟩) ?_
          clear hK
          refine fin_one 3 rfl rfl (by kernel_rfl) (fun K hK => ?_)
          refine wp_stw rfl rfl rfl (E5.drew.rowFar (N := w.heap.size) (by omega) _) ?_
          refine hK.out _ _ (fun _ => ⟨⟨(q0.1.1.rowFar (by omega) _).rowFar (by omega) _, (q0.1.2.rowFar (by omega) _).rowFar (by omega) _⟩, ⟨_, (E4.drew.row _).rowFar (by omega) _⟩, ⟨_, (E5.drew.rowFar (N := w.heap.size) (by omega) _).row _⟩⟩) ?_
          clear hK
          refine fin_done (by kernel_rfl) (NoPanic.normal ?_)
          go_wp2
          refine bodyPost_ret (v := .tuple #[.agg (relA U), .agg (relA U)]) ?_ rfl ⟨rfl, (HO.out.drew.row (by omega) _).row (by omega) _⟩
          exact two65w rfl rfl rfl ((E4.drew.row _).rowFar (by omega) _) ((E5.drew.rowFar (N := w.heap.size) (by omega) _).row _)
  · by_cases hn1 : 64 < n
    · have hb := hset 64 (hZm 64 (by omega))
      have hb' : (relA zeroR).toList.set 0 (.int .i64 64) = (relA Z).toList := hb
      clear hb
      go_enter Tryd.func9, Tryd.ntmps9
      go_wp2_with fail
      refine (hnew _).mono ?_
      rintro _ w1 ⟨rfl, k1⟩
      have hs1 : w.heap.size + 2 ≤ w1.heap.size := by have := k1.size; omega
      have B6 := Bk.new w1 (relA zeroR) 27
      obtain ⟨W6, hW6⟩ : ∃ W6, W6 = (w1.alloc (.cells (relA zeroR) 27)).setRow w1.heap.size (relA Z) := ⟨_, rfl⟩
      have C6 : Bk W6 w1.heap.size (relA Z) := by rw [hW6]; exact B6.row _
      have C4 : Bk W6 w.heap.size (relA zeroR) := by rw [hW6]; exact ((g4.on k1).alloc _).rowFar (by omega) _
      have C5 : Bk W6 (w.heap.size + 1) (relA zeroR) := by rw [hW6]; exact ((g5.on k1).alloc _).rowFar (by omega) _
      have K6 : On w W6 := by rw [hW6]; exact ((k0.trans k1).alloc _).row (by omega) _
      have hsz6 : W6.heap.size = w1.heap.size + 1 := by rw [hW6, size_setRow, World.size_alloc]
      have B7 := Bk.new W6 (relA zeroR) 30
      have hst : (storeCells ⟨W6.heap.size, 0, none⟩ (relA Z).toList).run Tryd.prog (W6.alloc (.cells (relA zeroR) 30)) = .ok () ((W6.alloc (.cells (relA zeroR) 30)).setRow W6.heap.size (relA Z)) := st65 B7 (relA_size _) (relA_size _) (relA_one _)
      obtain ⟨W7, hW7⟩ : ∃ W7, W7 = (W6.alloc (.cells (relA zeroR) 30)).setRow W6.heap.size (relA Z) := ⟨_, rfl⟩
      have D7 : Bk W7 (w1.heap.size + 1) (relA Z) := by rw [hW7, ← hsz6]; exact B7.row _
      have D6 : Bk W7 w1.heap.size (relA Z) := by rw [hW7]; exact (C6.alloc _).rowFar (by omega) _
      have D4 : Bk W7 w.heap.size (relA zeroR) := by rw [hW7]; exact (C4.alloc _).rowFar (by omega) _
      have D5 : Bk W7 (w.heap.size + 1) (relA zeroR) := by rw [hW7]; exact (C5.alloc _).rowFar (by omega) _
      have K7 : On w W7 := by rw [hW7]; exact (K6.alloc _).row (by omega) _
      rw [← hW7, hsz6] at hst
      clear hW7
      clear g4 g5 C4 C5 C6 K6 k0 hsz hset hZm
      go_wp2_with (first | (refine wpList_st rfl rfl rfl rfl B6 ?_; rw [← hW6]; clear B6 hW6))
      clear hst B7
      go_loopg [8] K.length (fun gg s8 wr => ∃ (i : Nat) (r : RelT), i ≤ K.length ∧ gg = K.length - i ∧ s8 = .int .i64 i ∧ Hid (On w wr) ∧ Hid (Wr r) ∧ r.n = min n.toNat 64 ∧ Bk wr w.heap.size (relA zeroR) ∧ Bk wr (w.heap.size + 1) (relA zeroR) ∧ Bk wr w1.heap.size (relA r) ∧ Bk wr (w1.heap.size + 1) (relA r) ∧ Hid (U = ofL r (K.drop i)))
      case atStart => exact ⟨0, Z, Nat.zero_le _, rfl, rfl, K7, HNW, hnn, D4, D5, D6, D7, HU⟩
      case round =>
        clear D4 D5 D6 D7 K7 HU HNW hnew hnn
        obtain ⟨i, r, hi, hk, rfl, HO, HW, hrn, E4, E5, E6, E7, HU⟩ := hrel
        rcases Nat.lt_or_ge i K.length with hlt | hge
        · obtain ⟨⟨a, b⟩, hx, hdr⟩ := pairs_at hlt
          obtain ⟨hxL, hi200, hiL⟩ := HKA.out i _ hx
          obtain ⟨g, off, rfl, hg, u0⟩ := (HR.out.on HO.out).at hxL
          have hc0 := u0 0 _ rfl
          have hc1 := u0 1 _ rfl
          simp only [Nat.add_zero] at hc0
          have hadd := fun W => add_is r HW.out a b W
          have HW2 : Hid (Wr (addR r a b)) := add_wr HW.out a b
          have hn2 := add_n r a b
          rw [hrn] at hn2
          have HU2 : Hid (U = ofL (addR r a b) (K.drop (i + 1))) := by
            show U = _
            rw [HU.out, hdr]
            rfl
          have hwad := fun (a' b' : Nat) (ea : a = a') (eb : b = b') (ha : a' < r.n) (hb : b' < r.n) W (hB : Bk W (w1.heap.size + 1) (relA r)) => wadd_is r HW.out (w1.heap.size + 1) a' b' ha hb W hB
          have hno : ¬ (0 ≤ a ∧ a < r.n ∧ 0 ≤ b ∧ b < r.n) → addR r a b = r := fun hh => by
            unfold addR overR
            rw [if_neg]
            simp
            omega
          clear u0 hx hdr hxL HU
          obtain ⟨A, hA⟩ : ∃ A, A = addR r a b := ⟨_, rfl⟩
          rw [← hA] at hadd HW2 hn2 HU2 hno
          have HAE : Hid (A = addR r a b) := hA
          clear hA
          go_wp2
          go_quiet (fail)
          by_cases ha0 : a < 0
          · obtain ⟨wq, hwq⟩ : ∃ wq, wq = wr.drewN nq := ⟨_, rfl⟩
            have kq : On wr wq := by rw [hwq]; exact (On.refl wr).drewN nq
            have F4 := E4.on kq
            have F5 := E5.on kq
            have F6 := E6.on kq
            have F7 := E7.on kq
            have KO := HO.out.trans kq
            rw [← hwq]
            clear hwq hc0 hc1 E4 E5 E6 E7
            go_wp2_with (refine wpList_ld rfl rfl rfl F6 ?_)
            refine (hadd _).mono ?_
            rintro _ w2 ⟨rfl, k2⟩
            have hs2 : w1.heap.size + 1 < w2.heap.size := (F7.on k2).lt
            have G4 := (F4.on k2).rowFar (N := w1.heap.size) (by omega) (relA A)
            have G5 := (F5.on k2).rowFar (N := w1.heap.size) (by omega) (relA A)
            have G6' := F6.on k2
            have G6 := G6'.row (relA A)
            have G7 := (F7.on k2).rowFar (N := w1.heap.size) (by omega) (relA A)
            have KG := (KO.trans k2).row (N := w1.heap.size) (by omega) (relA A)
            obtain ⟨W2, hW2⟩ : ∃ W2, W2 = w2.setRow w1.heap.size (relA A) := ⟨_, rfl⟩
            rw [← hW2] at G4 G5 G6 G7 KG
            have HW3 : Hid (W2 = w2.setRow w1.heap.size (relA A)) := hW2
            clear hW2
            have hcn := G7.at (relA_zero r)
            have hcl := G7.lt
            have hn6 := HW.out.n
            have e := hno (by omega)
            rw [← e] at G7
            clear e hno hwad HAE
            go_wp2_with (first | (refine wpList_st rfl rfl rfl rfl G6' ?_; rw [← HW3.out]; clear HW3 G6'))
            go_roundg (K.length - (i + 1))
            case measure => omega
            case rel => exact ⟨i + 1, A, hlt, rfl, by congr 1, KG, HW2, hn2, G4, G5, G6, G7, HU2⟩
          · by_cases ha1 : (r.n : Int) ≤ a
            · obtain ⟨wq, hwq⟩ : ∃ wq, wq = wr.drewN nq := ⟨_, rfl⟩
              have kq : On wr wq := by rw [hwq]; exact (On.refl wr).drewN nq
              have F4 := E4.on kq
              have F5 := E5.on kq
              have F6 := E6.on kq
              have F7 := E7.on kq
              have KO := HO.out.trans kq
              rw [← hwq]
              clear hwq hc0 hc1 E4 E5 E6 E7
              go_wp2_with (refine wpList_ld rfl rfl rfl F6 ?_)
              refine (hadd _).mono ?_
              rintro _ w2 ⟨rfl, k2⟩
              have hs2 : w1.heap.size + 1 < w2.heap.size := (F7.on k2).lt
              have G4 := (F4.on k2).rowFar (N := w1.heap.size) (by omega) (relA A)
              have G5 := (F5.on k2).rowFar (N := w1.heap.size) (by omega) (relA A)
              have G6' := F6.on k2
              have G6 := G6'.row (relA A)
              have G7 := (F7.on k2).rowFar (N := w1.heap.size) (by omega) (relA A)
              have KG := (KO.trans k2).row (N := w1.heap.size) (by omega) (relA A)
              obtain ⟨W2, hW2⟩ : ∃ W2, W2 = w2.setRow w1.heap.size (relA A) := ⟨_, rfl⟩
              rw [← hW2] at G4 G5 G6 G7 KG
              have HW3 : Hid (W2 = w2.setRow w1.heap.size (relA A)) := hW2
              clear hW2
              have hcn := G7.at (relA_zero r)
              have hcl := G7.lt
              have hn6 := HW.out.n
              have e := hno (by omega)
              rw [← e] at G7
              clear e hno hwad HAE
              go_wp2_with (first | (refine wpList_st rfl rfl rfl rfl G6' ?_; rw [← HW3.out]; clear HW3 G6'))
              go_roundg (K.length - (i + 1))
              case measure => omega
              case rel => exact ⟨i + 1, A, hlt, rfl, by congr 1, KG, HW2, hn2, G4, G5, G6, G7, HU2⟩
            · by_cases hb0 : b < 0
              · obtain ⟨wq, hwq⟩ : ∃ wq, wq = wr.drewN nq := ⟨_, rfl⟩
                have kq : On wr wq := by rw [hwq]; exact (On.refl wr).drewN nq
                have F4 := E4.on kq
                have F5 := E5.on kq
                have F6 := E6.on kq
                have F7 := E7.on kq
                have KO := HO.out.trans kq
                rw [← hwq]
                clear hwq hc0 hc1 E4 E5 E6 E7
                go_wp2_with (refine wpList_ld rfl rfl rfl F6 ?_)
                refine (hadd _).mono ?_
                rintro _ w2 ⟨rfl, k2⟩
                have hs2 : w1.heap.size + 1 < w2.heap.size := (F7.on k2).lt
                have G4 := (F4.on k2).rowFar (N := w1.heap.size) (by omega) (relA A)
                have G5 := (F5.on k2).rowFar (N := w1.heap.size) (by omega) (relA A)
                have G6' := F6.on k2
                have G6 := G6'.row (relA A)
                have G7 := (F7.on k2).rowFar (N := w1.heap.size) (by omega) (relA A)
                have KG := (KO.trans k2).row (N := w1.heap.size) (by omega) (relA A)
                obtain ⟨W2, hW2⟩ : ∃ W2, W2 = w2.setRow w1.heap.size (relA A) := ⟨_, rfl⟩
                rw [← hW2] at G4 G5 G6 G7 KG
                have HW3 : Hid (W2 = w2.setRow w1.heap.size (relA A)) := hW2
                clear hW2
                have hcn := G7.at (relA_zero r)
                have hcl := G7.lt
                have hn6 := HW.out.n
                have e := hno (by omega)
                rw [← e] at G7
                clear e hno hwad HAE
                go_wp2_with (first | (refine wpList_st rfl rfl rfl rfl G6' ?_; rw [← HW3.out]; clear HW3 G6'))
                go_roundg (K.length - (i + 1))
                case measure => omega
                case rel => exact ⟨i + 1, A, hlt, rfl, by congr 1, KG, HW2, hn2, G4, G5, G6, G7, HU2⟩
              · by_cases hb1 : (r.n : Int) ≤ b
                · obtain ⟨wq, hwq⟩ : ∃ wq, wq = wr.drewN nq := ⟨_, rfl⟩
                  have kq : On wr wq := by rw [hwq]; exact (On.refl wr).drewN nq
                  have F4 := E4.on kq
                  have F5 := E5.on kq
                  have F6 := E6.on kq
                  have F7 := E7.on kq
                  have KO := HO.out.trans kq
                  rw [← hwq]
                  clear hwq hc0 hc1 E4 E5 E6 E7
                  go_wp2_with (refine wpList_ld rfl rfl rfl F6 ?_)
                  refine (hadd _).mono ?_
                  rintro _ w2 ⟨rfl, k2⟩
                  have hs2 : w1.heap.size + 1 < w2.heap.size := (F7.on k2).lt
                  have G4 := (F4.on k2).rowFar (N := w1.heap.size) (by omega) (relA A)
                  have G5 := (F5.on k2).rowFar (N := w1.heap.size) (by omega) (relA A)
                  have G6' := F6.on k2
                  have G6 := G6'.row (relA A)
                  have G7 := (F7.on k2).rowFar (N := w1.heap.size) (by omega) (relA A)
                  have KG := (KO.trans k2).row (N := w1.heap.size) (by omega) (relA A)
                  obtain ⟨W2, hW2⟩ : ∃ W2, W2 = w2.setRow w1.heap.size (relA A) := ⟨_, rfl⟩
                  rw [← hW2] at G4 G5 G6 G7 KG
                  have HW3 : Hid (W2 = w2.setRow w1.heap.size (relA A)) := hW2
                  clear hW2
                  have hcn := G7.at (relA_zero r)
                  have hcl := G7.lt
                  have hn6 := HW.out.n
                  have e := hno (by omega)
                  rw [← e] at G7
                  clear e hno hwad HAE
                  go_wp2_with (first | (refine wpList_st rfl rfl rfl rfl G6' ?_; rw [← HW3.out]; clear HW3 G6'))
                  go_roundg (K.length - (i + 1))
                  case measure => omega
                  case rel => exact ⟨i + 1, A, hlt, rfl, by congr 1, KG, HW2, hn2, G4, G5, G6, G7, HU2⟩
                · obtain ⟨wq, hwq⟩ : ∃ wq, wq = wr.drewN nq := ⟨_, rfl⟩
                  have kq : On wr wq := by rw [hwq]; exact (On.refl wr).drewN nq
                  have F4 := E4.on kq
                  have F5 := E5.on kq
                  have F6 := E6.on kq
                  have F7 := E7.on kq
                  have KO := HO.out.trans kq
                  rw [← hwq]
                  clear hwq hc0 hc1 E4 E5 E6 E7
                  go_wp2_with (refine wpList_ld rfl rfl rfl F6 ?_)
                  refine (hadd _).mono ?_
                  rintro _ w2 ⟨rfl, k2⟩
                  have hs2 : w1.heap.size + 1 < w2.heap.size := (F7.on k2).lt
                  have G4 := (F4.on k2).rowFar (N := w1.heap.size) (by omega) (relA A)
                  have G5 := (F5.on k2).rowFar (N := w1.heap.size) (by omega) (relA A)
                  have G6' := F6.on k2
                  have G6 := G6'.row (relA A)
                  have G7 := (F7.on k2).rowFar (N := w1.heap.size) (by omega) (relA A)
                  have KG := (KO.trans k2).row (N := w1.heap.size) (by omega) (relA A)
                  obtain ⟨W2, hW2⟩ : ∃ W2, W2 = w2.setRow w1.heap.size (relA A) := ⟨_, rfl⟩
                  rw [← hW2] at G4 G5 G6 G7 KG
                  have HW3 : Hid (W2 = w2.setRow w1.heap.size (relA A)) := hW2
                  clear hW2
                  have hcn := G7.at (relA_zero r)
                  have hcl := G7.lt
                  have hn6 := HW.out.n
                  obtain ⟨a', ea⟩ : ∃ a' : Nat, a = a' := ⟨a.toNat, by omega⟩
                  obtain ⟨b', eb⟩ : ∃ b' : Nat, b = b' := ⟨b.toNat, by omega⟩
                  have hwa := hwad a' b' ea eb (by omega) (by omega)
                  subst ea
                  subst eb
                  have hHA := HAE.out
                  rw [← hHA] at hwa
                  clear hno hwad HAE hHA
                  go_wp2_with (first | (refine wpList_st rfl rfl rfl rfl G6' ?_; rw [← HW3.out]; clear HW3 G6'))
                  refine (hwa _ G7).mono ?_
                  rintro _ w3 ⟨rfl, hB3, hw3⟩
                  have k3 : ∀ M cs, M ≠ w1.heap.size + 1 → Bk W2 M cs → Bk w3 M cs := fun M cs hM hB => by rw [hw3]; exact hB.drew.far (fun h => hM h.symm) _ _
                  have H4 := k3 _ _ (by omega) G4
                  have H5 := k3 _ _ (by omega) G5
                  have H6 := k3 _ _ (by omega) G6
                  have KH : On w w3 := by rw [hw3]; exact KG.drew.setNew (by omega) _
                  clear hw3 k3 G4 G5 G6 G7 KG
                  go_wp2
                  go_roundg (K.length - (i + 1))
                  case measure => omega
                  case rel => exact ⟨i + 1, A, hlt, rfl, by congr 1, KH, HW2, hn2, H4, H5, H6, hB3, HU2⟩
        · obtain rfl : i = K.length := by omega
          obtain rfl : U = r := by rw [HU.out, List.drop_length]; rfl
          clear HU
          have hge2 : ¬ (K.length < L.length ∧ K.length < 200) := by omega
          by_cases hl : K.length < L.length
          · have hl2 : ¬ K.length < 200 := by omega
            go_wp2
            have q0 : (Bk wr.drew w1.heap.size (relA U) ∧ Bk wr.drew (w1.heap.size + 1) (relA U)) ∧ (∃ q, Bk wr.drew w.heap.size (relA q)) ∧ (∃ q, Bk wr.drew (w.heap.size + 1) (relA q)) := ⟨⟨E6, E7⟩, ⟨_, E4⟩, ⟨_, E5⟩⟩
            refine region_fin (fun W => (Bk W w1.heap.size (relA U) ∧ Bk W (w1.heap.size + 1) (relA U)) ∧ (∃ q, Bk W w.heap.size (relA q)) ∧ (∃ q, Bk W (w.heap.size + 1) (relA q))) 99 4 (by kernel_rfl) rfl ?_
            refine fin_take 0 (v := .agg (relA U)) rfl (by kernel_rfl) (by kernel_rfl) (by kernel_rfl) (by kernel_rfl) (fun _ _ _ h => h) rfl (fun W hW => exec_ld rfl rfl (hW.1.1)) q0 ?_
            simp only [Act.put, List.setIfInBounds_toArray, List.set_cons_zero, List.set_cons_succ]
            refine fin_take 1 (v := .agg (relA U)) rfl (by kernel_rfl) (by kernel_rfl) (by kernel_rfl) (by kernel_rfl) (fun _ _ _ h => h) rfl (fun W hW => exec_ldw rfl rfl (hW.1.2)) q0 ?_
            simp only [Act.put, List.setIfInBounds_toArray, List.set_cons_zero, List.set_cons_succ]
            refine fin_one 2 rfl rfl (by kernel_rfl) (fun K hK => ?_)
            refine wp_st rfl rfl rfl E4.drew ?_
            refine hK.out _ _ (fun _ => ⟨⟨q0.1.1.rowFar (by omega) _, q0.1.2.rowFar (by omega) _⟩, ⟨_, E4.drew.row _⟩, ⟨_, E5.drew.rowFar (by omega) _⟩⟩) ?_
            clear hK
            refine fin_one 3 rfl rfl (by kernel_rfl) (fun K hK => ?_)
            refine wp_stw rfl rfl rfl (E5.drew.rowFar (N := w.heap.size) (by omega) _) ?_
            refine hK.out _ _ (fun _ => ⟨⟨(q0.1.1.rowFar (by omega) _).rowFar (by omega) _, (q0.1.2.rowFar (by omega) _).rowFar (by omega) _⟩, ⟨_, (E4.drew.row _).rowFar (by omega) _⟩, ⟨_, (E5.drew.rowFar (N := w.heap.size) (by omega) _).row _⟩⟩) ?_
            clear hK
            refine fin_done (by kernel_rfl) (NoPanic.normal ?_)
            go_wp2
            refine bodyPost_ret (v := .tuple #[.agg (relA U), .agg (relA U)]) ?_ rfl ⟨rfl, (HO.out.drew.row (by omega) _).row (by omega) _⟩
            exact two65w rfl rfl rfl ((E4.drew.row _).rowFar (by omega) _) ((E5.drew.rowFar (N := w.heap.size) (by omega) _).row _)
          · skip
            go_wp2
            have q0 : (Bk wr.drew w1.heap.size (relA U) ∧ Bk wr.drew (w1.heap.size + 1) (relA U)) ∧ (∃ q, Bk wr.drew w.heap.size (relA q)) ∧ (∃ q, Bk wr.drew (w.heap.size + 1) (relA q)) := ⟨⟨E6, E7⟩, ⟨_, E4⟩, ⟨_, E5⟩⟩
            refine region_fin (fun W => (Bk W w1.heap.size (relA U) ∧ Bk W (w1.heap.size + 1) (relA U)) ∧ (∃ q, Bk W w.heap.size (relA q)) ∧ (∃ q, Bk W (w.heap.size + 1) (relA q))) 99 4 (by kernel_rfl) rfl ?_
            refine fin_take 0 (v := .agg (relA U)) rfl (by kernel_rfl) (by kernel_rfl) (by kernel_rfl) (by kernel_rfl) (fun _ _ _ h => h) rfl (fun W hW => exec_ld rfl rfl (hW.1.1)) q0 ?_
            simp only [Act.put, List.setIfInBounds_toArray, List.set_cons_zero, List.set_cons_succ]
            refine fin_take 1 (v := .agg (relA U)) rfl (by kernel_rfl) (by kernel_rfl) (by kernel_rfl) (by kernel_rfl) (fun _ _ _ h => h) rfl (fun W hW => exec_ldw rfl rfl (hW.1.2)) q0 ?_
            simp only [Act.put, List.setIfInBounds_toArray, List.set_cons_zero, List.set_cons_succ]
            refine fin_one 2 rfl rfl (by kernel_rfl) (fun K hK => ?_)
            refine wp_st rfl rfl rfl E4.drew ?_
            refine hK.out _ _ (fun _ => ⟨⟨q0.1.1.rowFar (by omega) _, q0.1.2.rowFar (by omega) _⟩, ⟨_, E4.drew.row _⟩, ⟨_, E5.drew.rowFar (by omega) _⟩⟩) ?_
            clear hK
            refine fin_one 3 rfl rfl (by kernel_rfl) (fun K hK => ?_)
            refine wp_stw rfl rfl rfl (E5.drew.rowFar (N := w.heap.size) (by omega) _) ?_
            refine hK.out _ _ (fun _ => ⟨⟨(q0.1.1.rowFar (by omega) _).rowFar (by omega) _, (q0.1.2.rowFar (by omega) _).rowFar (by omega) _⟩, ⟨_, (E4.drew.row _).rowFar (by omega) _⟩, ⟨_, (E5.drew.rowFar (N := w.heap.size) (by omega) _).row _⟩⟩) ?_
            clear hK
            refine fin_done (by kernel_rfl) (NoPanic.normal ?_)
            go_wp2
            refine bodyPost_ret (v := .tuple #[.agg (relA U), .agg (relA U)]) ?_ rfl ⟨rfl, (HO.out.drew.row (by omega) _).row (by omega) _⟩
            exact two65w rfl rfl rfl ((E4.drew.row _).rowFar (by omega) _) ((E5.drew.rowFar (N := w.heap.size) (by omega) _).row _)
    · obtain ⟨m, hm⟩ : ∃ m : Nat, (m : Int) = n := ⟨n.toNat, by omega⟩
      have hb' := hset m (hZm m (by omega))
      rw [hm] at hb'
      clear hm
      go_enter Tryd.func9, Tryd.ntmps9
      go_wp2_with fail
      refine (hnew _).mono ?_
      rintro _ w1 ⟨rfl, k1⟩
      have hs1 : w.heap.size + 2 ≤ w1.heap.size := by have := k1.size; omega
      have B6 := Bk.new w1 (relA zeroR) 27
      obtain ⟨W6, hW6⟩ : ∃ W6, W6 = (w1.alloc (.cells (relA zeroR) 27)).setRow w1.heap.size (relA Z) := ⟨_, rfl⟩
      have C6 : Bk W6 w1.heap.size (relA Z) := by rw [hW6]; exact B6.row _
      have C4 : Bk W6 w.heap.size (relA zeroR) := by rw [hW6]; exact ((g4.on k1).alloc _).rowFar (by omega) _
      have C5 : Bk W6 (w.heap.size + 1) (relA zeroR) := by rw [hW6]; exact ((g5.on k1).alloc _).rowFar (by omega) _
      have K6 : On w W6 := by rw [hW6]; exact ((k0.trans k1).alloc _).row (by omega) _
      have hsz6 : W6.heap.size = w1.heap.size + 1 := by rw [hW6, size_setRow, World.size_alloc]
      have B7 := Bk.new W6 (relA zeroR) 30
      have hst : (storeCells ⟨W6.heap.size, 0, none⟩ (relA Z).toList).run Tryd.prog (W6.alloc (.cells (relA zeroR) 30)) = .ok () ((W6.alloc (.cells (relA zeroR) 30)).setRow W6.heap.size (relA Z)) := st65 B7 (relA_size _) (relA_size _) (relA_one _)
      obtain ⟨W7, hW7⟩ : ∃ W7, W7 = (W6.alloc (.cells (relA zeroR) 30)).setRow W6.heap.size (relA Z) := ⟨_, rfl⟩
      have D7 : Bk W7 (w1.heap.size + 1) (relA Z) := by rw [hW7, ← hsz6]; exact B7.row _
      have D6 : Bk W7 w1.heap.size (relA Z) := by rw [hW7]; exact (C6.alloc _).rowFar (by omega) _
      have D4 : Bk W7 w.heap.size (relA zeroR) := by rw [hW7]; exact (C4.alloc _).rowFar (by omega) _
      have D5 : Bk W7 (w.heap.size + 1) (relA zeroR) := by rw [hW7]; exact (C5.alloc _).rowFar (by omega) _
      have K7 : On w W7 := by rw [hW7]; exact (K6.alloc _).row (by omega) _
      rw [← hW7, hsz6] at hst
      clear hW7
      clear g4 g5 C4 C5 C6 K6 k0 hsz hset hZm
      go_wp2_with (first | (refine wpList_st rfl rfl rfl rfl B6 ?_; rw [← hW6]; clear B6 hW6))
      clear hst B7
      go_loopg [8] K.length (fun gg s8 wr => ∃ (i : Nat) (r : RelT), i ≤ K.length ∧ gg = K.length - i ∧ s8 = .int .i64 i ∧ Hid (On w wr) ∧ Hid (Wr r) ∧ r.n = min n.toNat 64 ∧ Bk wr w.heap.size (relA zeroR) ∧ Bk wr (w.heap.size + 1) (relA zeroR) ∧ Bk wr w1.heap.size (relA r) ∧ Bk wr (w1.heap.size + 1) (relA r) ∧ Hid (U = ofL r (K.drop i)))
      case atStart => exact ⟨0, Z, Nat.zero_le _, rfl, rfl, K7, HNW, hnn, D4, D5, D6, D7, HU⟩
      case round =>
        clear D4 D5 D6 D7 K7 HU HNW hnew hnn
        obtain ⟨i, r, hi, hk, rfl, HO, HW, hrn, E4, E5, E6, E7, HU⟩ := hrel
        rcases Nat.lt_or_ge i K.length with hlt | hge
        · obtain ⟨⟨a, b⟩, hx, hdr⟩ := pairs_at hlt
          obtain ⟨hxL, hi200, hiL⟩ := HKA.out i _ hx
          obtain ⟨g, off, rfl, hg, u0⟩ := (HR.out.on HO.out).at hxL
          have hc0 := u0 0 _ rfl
          have hc1 := u0 1 _ rfl
          simp only [Nat.add_zero] at hc0
          have hadd := fun W => add_is r HW.out a b W
          have HW2 : Hid (Wr (addR r a b)) := add_wr HW.out a b
          have hn2 := add_n r a b
          rw [hrn] at hn2
          have HU2 : Hid (U = ofL (addR r a b) (K.drop (i + 1))) := by
            show U = _
            rw [HU.out, hdr]
            rfl
          have hwad := fun (a' b' : Nat) (ea : a = a') (eb : b = b') (ha : a' < r.n) (hb : b' < r.n) W (hB : Bk W (w1.heap.size + 1) (relA r)) => wadd_is r HW.out (w1.heap.size + 1) a' b' ha hb W hB
          have hno : ¬ (0 ≤ a ∧ a < r.n ∧ 0 ≤ b ∧ b < r.n) → addR r a b = r := fun hh => by
            unfold addR overR
            rw [if_neg]
            simp
            omega
          clear u0 hx hdr hxL HU
          obtain ⟨A, hA⟩ : ∃ A, A = addR r a b := ⟨_, rfl⟩
          rw [← hA] at hadd HW2 hn2 HU2 hno
          have HAE : Hid (A = addR r a b) := hA
          clear hA
          go_wp2
          go_quiet (fail)
          by_cases ha0 : a < 0
          · obtain ⟨wq, hwq⟩ : ∃ wq, wq = wr.drewN nq := ⟨_, rfl⟩
            have kq : On wr wq := by rw [hwq]; exact (On.refl wr).drewN nq
            have F4 := E4.on kq
            have F5 := E5.on kq
            have F6 := E6.on kq
            have F7 := E7.on kq
            have KO := HO.out.trans kq
            rw [← hwq]
            clear hwq hc0 hc1 E4 E5 E6 E7
            go_wp2_with (refine wpList_ld rfl rfl rfl F6 ?_)
            refine (hadd _).mono ?_
            rintro _ w2 ⟨rfl, k2⟩
            have hs2 : w1.heap.size + 1 < w2.heap.size := (F7.on k2).lt
            have G4 := (F4.on k2).rowFar (N := w1.heap.size) (by omega) (relA A)
            have G5 := (F5.on k2).rowFar (N := w1.heap.size) (by omega) (relA A)
            have G6' := F6.on k2
            have G6 := G6'.row (relA A)
            have G7 := (F7.on k2).rowFar (N := w1.heap.size) (by omega) (relA A)
            have KG := (KO.trans k2).row (N := w1.heap.size) (by omega) (relA A)
            obtain ⟨W2, hW2⟩ : ∃ W2, W2 = w2.setRow w1.heap.size (relA A) := ⟨_, rfl⟩
            rw [← hW2] at G4 G5 G6 G7 KG
            have HW3 : Hid (W2 = w2.setRow w1.heap.size (relA A)) := hW2
            clear hW2
            have hcn := G7.at (relA_zero r)
            have hcl := G7.lt
            have hn6 := HW.out.n
            have e := hno (by omega)
            rw [← e] at G7
            clear e hno hwad HAE
            go_wp2_with (first | (refine wpList_st rfl rfl rfl rfl G6' ?_; rw [← HW3.out]; clear HW3 G6'))
            go_roundg (K.length - (i + 1))
            case measure => omega
            case rel => exact ⟨i + 1, A, hlt, rfl, by congr 1, KG, HW2, hn2, G4, G5, G6, G7, HU2⟩
          · by_cases ha1 : (r.n : Int) ≤ a
            · obtain ⟨wq, hwq⟩ : ∃ wq, wq = wr.drewN nq := ⟨_, rfl⟩
              have kq : On wr wq := by rw [hwq]; exact (On.refl wr).drewN nq
              have F4 := E4.on kq
              have F5 := E5.on kq
              have F6 := E6.on kq
              have F7 := E7.on kq
              have KO := HO.out.trans kq
              rw [← hwq]
              clear hwq hc0 hc1 E4 E5 E6 E7
              go_wp2_with (refine wpList_ld rfl rfl rfl F6 ?_)
              refine (hadd _).mono ?_
              rintro _ w2 ⟨rfl, k2⟩
              have hs2 : w1.heap.size + 1 < w2.heap.size := (F7.on k2).lt
              have G4 := (F4.on k2).rowFar (N := w1.heap.size) (by omega) (relA A)
              have G5 := (F5.on k2).rowFar (N := w1.heap.size) (by omega) (relA A)
              have G6' := F6.on k2
              have G6 := G6'.row (relA A)
              have G7 := (F7.on k2).rowFar (N := w1.heap.size) (by omega) (relA A)
              have KG := (KO.trans k2).row (N := w1.heap.size) (by omega) (relA A)
              obtain ⟨W2, hW2⟩ : ∃ W2, W2 = w2.setRow w1.heap.size (relA A) := ⟨_, rfl⟩
              rw [← hW2] at G4 G5 G6 G7 KG
              have HW3 : Hid (W2 = w2.setRow w1.heap.size (relA A)) := hW2
              clear hW2
              have hcn := G7.at (relA_zero r)
              have hcl := G7.lt
              have hn6 := HW.out.n
              have e := hno (by omega)
              rw [← e] at G7
              clear e hno hwad HAE
              go_wp2_with (first | (refine wpList_st rfl rfl rfl rfl G6' ?_; rw [← HW3.out]; clear HW3 G6'))
              go_roundg (K.length - (i + 1))
              case measure => omega
              case rel => exact ⟨i + 1, A, hlt, rfl, by congr 1, KG, HW2, hn2, G4, G5, G6, G7, HU2⟩
            · by_cases hb0 : b < 0
              · obtain ⟨wq, hwq⟩ : ∃ wq, wq = wr.drewN nq := ⟨_, rfl⟩
                have kq : On wr wq := by rw [hwq]; exact (On.refl wr).drewN nq
                have F4 := E4.on kq
                have F5 := E5.on kq
                have F6 := E6.on kq
                have F7 := E7.on kq
                have KO := HO.out.trans kq
                rw [← hwq]
                clear hwq hc0 hc1 E4 E5 E6 E7
                go_wp2_with (refine wpList_ld rfl rfl rfl F6 ?_)
                refine (hadd _).mono ?_
                rintro _ w2 ⟨rfl, k2⟩
                have hs2 : w1.heap.size + 1 < w2.heap.size := (F7.on k2).lt
                have G4 := (F4.on k2).rowFar (N := w1.heap.size) (by omega) (relA A)
                have G5 := (F5.on k2).rowFar (N := w1.heap.size) (by omega) (relA A)
                have G6' := F6.on k2
                have G6 := G6'.row (relA A)
                have G7 := (F7.on k2).rowFar (N := w1.heap.size) (by omega) (relA A)
                have KG := (KO.trans k2).row (N := w1.heap.size) (by omega) (relA A)
                obtain ⟨W2, hW2⟩ : ∃ W2, W2 = w2.setRow w1.heap.size (relA A) := ⟨_, rfl⟩
                rw [← hW2] at G4 G5 G6 G7 KG
                have HW3 : Hid (W2 = w2.setRow w1.heap.size (relA A)) := hW2
                clear hW2
                have hcn := G7.at (relA_zero r)
                have hcl := G7.lt
                have hn6 := HW.out.n
                have e := hno (by omega)
                rw [← e] at G7
                clear e hno hwad HAE
                go_wp2_with (first | (refine wpList_st rfl rfl rfl rfl G6' ?_; rw [← HW3.out]; clear HW3 G6'))
                go_roundg (K.length - (i + 1))
                case measure => omega
                case rel => exact ⟨i + 1, A, hlt, rfl, by congr 1, KG, HW2, hn2, G4, G5, G6, G7, HU2⟩
              · by_cases hb1 : (r.n : Int) ≤ b
                · obtain ⟨wq, hwq⟩ : ∃ wq, wq = wr.drewN nq := ⟨_, rfl⟩
                  have kq : On wr wq := by rw [hwq]; exact (On.refl wr).drewN nq
                  have F4 := E4.on kq
                  have F5 := E5.on kq
                  have F6 := E6.on kq
                  have F7 := E7.on kq
                  have KO := HO.out.trans kq
                  rw [← hwq]
                  clear hwq hc0 hc1 E4 E5 E6 E7
                  go_wp2_with (refine wpList_ld rfl rfl rfl F6 ?_)
                  refine (hadd _).mono ?_
                  rintro _ w2 ⟨rfl, k2⟩
                  have hs2 : w1.heap.size + 1 < w2.heap.size := (F7.on k2).lt
                  have G4 := (F4.on k2).rowFar (N := w1.heap.size) (by omega) (relA A)
                  have G5 := (F5.on k2).rowFar (N := w1.heap.size) (by omega) (relA A)
                  have G6' := F6.on k2
                  have G6 := G6'.row (relA A)
                  have G7 := (F7.on k2).rowFar (N := w1.heap.size) (by omega) (relA A)
                  have KG := (KO.trans k2).row (N := w1.heap.size) (by omega) (relA A)
                  obtain ⟨W2, hW2⟩ : ∃ W2, W2 = w2.setRow w1.heap.size (relA A) := ⟨_, rfl⟩
                  rw [← hW2] at G4 G5 G6 G7 KG
                  have HW3 : Hid (W2 = w2.setRow w1.heap.size (relA A)) := hW2
                  clear hW2
                  have hcn := G7.at (relA_zero r)
                  have hcl := G7.lt
                  have hn6 := HW.out.n
                  have e := hno (by omega)
                  rw [← e] at G7
                  clear e hno hwad HAE
                  go_wp2_with (first | (refine wpList_st rfl rfl rfl rfl G6' ?_; rw [← HW3.out]; clear HW3 G6'))
                  go_roundg (K.length - (i + 1))
                  case measure => omega
                  case rel => exact ⟨i + 1, A, hlt, rfl, by congr 1, KG, HW2, hn2, G4, G5, G6, G7, HU2⟩
                · obtain ⟨wq, hwq⟩ : ∃ wq, wq = wr.drewN nq := ⟨_, rfl⟩
                  have kq : On wr wq := by rw [hwq]; exact (On.refl wr).drewN nq
                  have F4 := E4.on kq
                  have F5 := E5.on kq
                  have F6 := E6.on kq
                  have F7 := E7.on kq
                  have KO := HO.out.trans kq
                  rw [← hwq]
                  clear hwq hc0 hc1 E4 E5 E6 E7
                  go_wp2_with (refine wpList_ld rfl rfl rfl F6 ?_)
                  refine (hadd _).mono ?_
                  rintro _ w2 ⟨rfl, k2⟩
                  have hs2 : w1.heap.size + 1 < w2.heap.size := (F7.on k2).lt
                  have G4 := (F4.on k2).rowFar (N := w1.heap.size) (by omega) (relA A)
                  have G5 := (F5.on k2).rowFar (N := w1.heap.size) (by omega) (relA A)
                  have G6' := F6.on k2
                  have G6 := G6'.row (relA A)
                  have G7 := (F7.on k2).rowFar (N := w1.heap.size) (by omega) (relA A)
                  have KG := (KO.trans k2).row (N := w1.heap.size) (by omega) (relA A)
                  obtain ⟨W2, hW2⟩ : ∃ W2, W2 = w2.setRow w1.heap.size (relA A) := ⟨_, rfl⟩
                  rw [← hW2] at G4 G5 G6 G7 KG
                  have HW3 : Hid (W2 = w2.setRow w1.heap.size (relA A)) := hW2
                  clear hW2
                  have hcn := G7.at (relA_zero r)
                  have hcl := G7.lt
                  have hn6 := HW.out.n
                  obtain ⟨a', ea⟩ : ∃ a' : Nat, a = a' := ⟨a.toNat, by omega⟩
                  obtain ⟨b', eb⟩ : ∃ b' : Nat, b = b' := ⟨b.toNat, by omega⟩
                  have hwa := hwad a' b' ea eb (by omega) (by omega)
                  subst ea
                  subst eb
                  have hHA := HAE.out
                  rw [← hHA] at hwa
                  clear hno hwad HAE hHA
                  go_wp2_with (first | (refine wpList_st rfl rfl rfl rfl G6' ?_; rw [← HW3.out]; clear HW3 G6'))
                  refine (hwa _ G7).mono ?_
                  rintro _ w3 ⟨rfl, hB3, hw3⟩
                  have k3 : ∀ M cs, M ≠ w1.heap.size + 1 → Bk W2 M cs → Bk w3 M cs := fun M cs hM hB => by rw [hw3]; exact hB.drew.far (fun h => hM h.symm) _ _
                  have H4 := k3 _ _ (by omega) G4
                  have H5 := k3 _ _ (by omega) G5
                  have H6 := k3 _ _ (by omega) G6
                  have KH : On w w3 := by rw [hw3]; exact KG.drew.setNew (by omega) _
                  clear hw3 k3 G4 G5 G6 G7 KG
                  go_wp2
                  go_roundg (K.length - (i + 1))
                  case measure => omega
                  case rel => exact ⟨i + 1, A, hlt, rfl, by congr 1, KH, HW2, hn2, H4, H5, H6, hB3, HU2⟩
        · obtain rfl : i = K.length := by omega
          obtain rfl : U = r := by rw [HU.out, List.drop_length]; rfl
          clear HU
          have hge2 : ¬ (K.length < L.length ∧ K.length < 200) := by omega
          by_cases hl : K.length < L.length
          · have hl2 : ¬ K.length < 200 := by omega
            go_wp2
            have q0 : (Bk wr.drew w1.heap.size (relA U) ∧ Bk wr.drew (w1.heap.size + 1) (relA U)) ∧ (∃ q, Bk wr.drew w.heap.size (relA q)) ∧ (∃ q, Bk wr.drew (w.heap.size + 1) (relA q)) := ⟨⟨E6, E7⟩, ⟨_, E4⟩, ⟨_, E5⟩⟩
            refine region_fin (fun W => (Bk W w1.heap.size (relA U) ∧ Bk W (w1.heap.size + 1) (relA U)) ∧ (∃ q, Bk W w.heap.size (relA q)) ∧ (∃ q, Bk W (w.heap.size + 1) (relA q))) 99 4 (by kernel_rfl) rfl ?_
            refine fin_take 0 (v := .agg (relA U)) rfl (by kernel_rfl) (by kernel_rfl) (by kernel_rfl) (by kernel_rfl) (fun _ _ _ h => h) rfl (fun W hW => exec_ld rfl rfl (hW.1.1)) q0 ?_
            simp only [Act.put, List.setIfInBounds_toArray, List.set_cons_zero, List.set_cons_succ]
            refine fin_take 1 (v := .agg (relA U)) rfl (by kernel_rfl) (by kernel_rfl) (by kernel_rfl) (by kernel_rfl) (fun _ _ _ h => h) rfl (fun W hW => exec_ldw rfl rfl (hW.1.2)) q0 ?_
            simp only [Act.put, List.setIfInBounds_toArray, List.set_cons_zero, List.set_cons_succ]
            refine fin_one 2 rfl rfl (by kernel_rfl) (fun K hK => ?_)
            refine wp_st rfl rfl rfl E4.drew ?_
            refine hK.out _ _ (fun _ => ⟨⟨q0.1.1.rowFar (by omega) _, q0.1.2.rowFar (by omega) _⟩, ⟨_, E4.drew.row _⟩, ⟨_, E5.drew.rowFar (by omega) _⟩⟩) ?_
            clear hK
            refine fin_one 3 rfl rfl (by kernel_rfl) (fun K hK => ?_)
            refine wp_stw rfl rfl rfl (E5.drew.rowFar (N := w.heap.size) (by omega) _) ?_
            refine hK.out _ _ (fun _ => ⟨⟨(q0.1.1.rowFar (by omega) _).rowFar (by omega) _, (q0.1.2.rowFar (by omega) _).rowFar (by omega) _⟩, ⟨_, (E4.drew.row _).rowFar (by omega) _⟩, ⟨_, (E5.drew.rowFar (N := w.heap.size) (by omega) _).row _⟩⟩) ?_
            clear hK
            refine fin_done (by kernel_rfl) (NoPanic.normal ?_)
            go_wp2
            refine bodyPost_ret (v := .tuple #[.agg (relA U), .agg (relA U)]) ?_ rfl ⟨rfl, (HO.out.drew.row (by omega) _).row (by omega) _⟩
            exact two65w rfl rfl rfl ((E4.drew.row _).rowFar (by omega) _) ((E5.drew.rowFar (N := w.heap.size) (by omega) _).row _)
          · skip
            go_wp2
            have q0 : (Bk wr.drew w1.heap.size (relA U) ∧ Bk wr.drew (w1.heap.size + 1) (relA U)) ∧ (∃ q, Bk wr.drew w.heap.size (relA q)) ∧ (∃ q, Bk wr.drew (w.heap.size + 1) (relA q)) := ⟨⟨E6, E7⟩, ⟨_, E4⟩, ⟨_, E5⟩⟩
            refine region_fin (fun W => (Bk W w1.heap.size (relA U) ∧ Bk W (w1.heap.size + 1) (relA U)) ∧ (∃ q, Bk W w.heap.size (relA q)) ∧ (∃ q, Bk W (w.heap.size + 1) (relA q))) 99 4 (by kernel_rfl) rfl ?_
            refine fin_take 0 (v := .agg (relA U)) rfl (by kernel_rfl) (by kernel_rfl) (by kernel_rfl) (by kernel_rfl) (fun _ _ _ h => h) rfl (fun W hW => exec_ld rfl rfl (hW.1.1)) q0 ?_
            simp only [Act.put, List.setIfInBounds_toArray, List.set_cons_zero, List.set_cons_succ]
            refine fin_take 1 (v := .agg (relA U)) rfl (by kernel_rfl) (by kernel_rfl) (by kernel_rfl) (by kernel_rfl) (fun _ _ _ h => h) rfl (fun W hW => exec_ldw rfl rfl (hW.1.2)) q0 ?_
            simp only [Act.put, List.setIfInBounds_toArray, List.set_cons_zero, List.set_cons_succ]
            refine fin_one 2 rfl rfl (by kernel_rfl) (fun K hK => ?_)
            refine wp_st rfl rfl rfl E4.drew ?_
            refine hK.out _ _ (fun _ => ⟨⟨q0.1.1.rowFar (by omega) _, q0.1.2.rowFar (by omega) _⟩, ⟨_, E4.drew.row _⟩, ⟨_, E5.drew.rowFar (by omega) _⟩⟩) ?_
            clear hK
            refine fin_one 3 rfl rfl (by kernel_rfl) (fun K hK => ?_)
            refine wp_stw rfl rfl rfl (E5.drew.rowFar (N := w.heap.size) (by omega) _) ?_
            refine hK.out _ _ (fun _ => ⟨⟨(q0.1.1.rowFar (by omega) _).rowFar (by omega) _, (q0.1.2.rowFar (by omega) _).rowFar (by omega) _⟩, ⟨_, (E4.drew.row _).rowFar (by omega) _⟩, ⟨_, (E5.drew.rowFar (N := w.heap.size) (by omega) _).row _⟩⟩) ?_
            clear hK
            refine fin_done (by kernel_rfl) (NoPanic.normal ?_)
            go_wp2
            refine bodyPost_ret (v := .tuple #[.agg (relA U), .agg (relA U)]) ?_ rfl ⟨rfl, (HO.out.drew.row (by omega) _).row (by omega) _⟩
            exact two65w rfl rfl rfl ((E4.drew.row _).rowFar (by omega) _) ((E5.drew.rowFar (N := w.heap.size) (by omega) _).row _)
end Go.Proofs.YtohngifmbnlmmaaDoor
