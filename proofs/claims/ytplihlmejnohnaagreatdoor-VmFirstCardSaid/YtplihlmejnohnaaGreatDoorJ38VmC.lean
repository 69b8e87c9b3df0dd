/- jacquardlaw12.SB: a program of two threads. -/
import Derived.Test.YtplihlmejnohnaaGreatDoorJ25AgA
import Derived.Test.YtplihlmejnohnaaGreatDoorJ37AgB
import Derived.Lib.SlBytesConst
import Derived.Test.YtplihlmejnohnaaGreatDoorJ35VmB
namespace Go.Proofs.YtplihlmejnohnaaGreatDoor
open Go.RowKit

theorem hp_up {W : World} {k : Nat} {o o' : Obj} (h : W.heap[k]? = some o) : (W.alloc o').heap[k]? = some o :=
  (Below.heap_alloc _ _ _ (Array.getElem?_eq_some_iff.1 h).1).trans h
theorem cell_of {W : World} {k i : Nat} {cs : Array Value} {T : TypeId} {fr : Nat × Nat} (h : W.heap[k]? = some (.cells cs T fr)) : W.cell? ⟨k, i, none⟩ = cs[i]? := by
  simp [World.cell?, h]
theorem rd_of {α : Type} {C : α → List Value} {k : Nat} {W : World} {g n : Nat} {cs : Array Value} {T : TypeId} {fr : Nat × Nat} {L : List α} (h : W.heap[g]? = some (.cells cs T fr)) (hC : ∀ x, (C x).length = k) (hc : cs = (L.flatMap C).toArray) (hn : L.length = n) (hl : n ≤ 9223372036854775807) : Rd C k W (.slice (some ⟨g, 0, none⟩) n n) L := by
  subst hn
  refine ⟨_, _, rfl, Nat.le_refl _, hl, fun _ => ⟨g, 0, rfl, (Array.getElem?_eq_some_iff.1 h).1, fun i x j u hi hj => ?_⟩⟩
  rw [cell_of h, hc, List.getElem?_toArray, Nat.zero_add, flat_at C k hC L i j x hi (by rw [← hC x]; exact (List.getElem?_eq_some_iff.1 hj).1)]
  exact hj
set_option maxHeartbeats 4000000 in
set_option maxRecDepth 8000 in
theorem sb_is (w : World) : Calls Tryz.prog 41 #[] w fun e w' => ∃ pv, e = .returned pv ∧ ProgFl w' pv [120, 121] [0, 0] sbL ∧ On w w' := by
  have hcv := Lib.run_convert_bytes_const (P := Tryz.prog) ((w.alloc (.cells #[.slice none 0 0, .slice none 0 0, .slice none 0 0] 27)).alloc (.cells #[.int .i64 (-1), .int .i64 1] 105)) 23 5 #[.int .u8 120, .int .u8 121] 2 2 Tryz.underlying23 Tryz.underlying5
  rw [World.size_alloc, World.size_alloc] at hcv
  obtain ⟨W0, e0⟩ : ∃ W0, W0 = w.alloc (.cells #[.slice (some ⟨w.heap.size + 1 + 1, 0, none⟩) 2 2, .slice (some ⟨w.heap.size + 1 + 1 + 1, 0, none⟩) 2 2, .slice (some ⟨w.heap.size + 1 + 1 + 1 + 1 + 1 + 1, 0, none⟩) 2 2] 27) := ⟨_, rfl⟩
  have z0 : W0.heap.size = w.heap.size + 1 := by rw [e0, World.size_alloc]
  obtain ⟨W1, e1⟩ : ∃ W1, W1 = W0.alloc (.cells #[.int .i64 (-1), .int .i64 1] 105) := ⟨_, rfl⟩
  have z1 : W1.heap.size = w.heap.size + 1 + 1 := by rw [e1, World.size_alloc, z0]
  obtain ⟨W2, e2⟩ : ∃ W2, W2 = W1.alloc (.cells #[.int .u8 120, .int .u8 121] 5 (2, 3)) := ⟨_, rfl⟩
  have z2 : W2.heap.size = w.heap.size + 1 + 1 + 1 := by rw [e2, World.size_alloc, z1]
  obtain ⟨W3, e3⟩ : ∃ W3, W3 = W2.alloc (.cells #[.int .i64 0, .int .i64 0] 2) := ⟨_, rfl⟩
  have z3 : W3.heap.size = w.heap.size + 1 + 1 + 1 + 1 := by rw [e3, World.size_alloc, z2]
  obtain ⟨W4, e4⟩ : ∃ W4, W4 = W3.alloc (.cells #[.int .i64 1, .int .i64 0, .int .i64 0, .int .i64 (-1), .int .i64 1, .int .i64 0, .int .i64 0, .int .i64 0, .int .i64 0, .int .i64 2, .int .i64 0, .int .i64 1, .int .i64 0, .int .i64 0, .int .i64 0, .int .i64 0, .int .i64 0, .int .i64 0] 107) := ⟨_, rfl⟩
  have z4 : W4.heap.size = w.heap.size + 1 + 1 + 1 + 1 + 1 := by rw [e4, World.size_alloc, z3]
  obtain ⟨W5, e5⟩ : ∃ W5, W5 = W4.alloc (.cells #[.int .i64 1, .int .i64 0, .int .i64 1, .int .i64 (-1), .int .i64 1, .int .i64 0, .int .i64 0, .int .i64 0, .int .i64 0, .int .i64 2, .int .i64 0, .int .i64 0, .int .i64 0, .int .i64 0, .int .i64 0, .int .i64 0, .int .i64 0, .int .i64 0] 107) := ⟨_, rfl⟩
  have z5 : W5.heap.size = w.heap.size + 1 + 1 + 1 + 1 + 1 + 1 := by rw [e5, World.size_alloc, z4]
  obtain ⟨W6, e6⟩ : ∃ W6, W6 = W5.alloc (.cells #[.slice (some ⟨w.heap.size + 1 + 1 + 1 + 1, 0, none⟩) 2 2, .slice (some ⟨w.heap.size + 1 + 1 + 1 + 1 + 1, 0, none⟩) 2 2] 117) := ⟨_, rfl⟩
  have z6 : W6.heap.size = w.heap.size + 1 + 1 + 1 + 1 + 1 + 1 + 1 := by rw [e6, World.size_alloc, z5]
  have h2 : W2.heap[w.heap.size + 1 + 1]? = some (.cells #[.int .u8 120, .int .u8 121] 5 (2, 3)) := by rw [← z1, e2]; exact heap_alloc_new _ _
  have h2 : W3.heap[w.heap.size + 1 + 1]? = some (.cells #[.int .u8 120, .int .u8 121] 5 (2, 3)) := by rw [e3]; exact hp_up h2
  have h2 : W4.heap[w.heap.size + 1 + 1]? = some (.cells #[.int .u8 120, .int .u8 121] 5 (2, 3)) := by rw [e4]; exact hp_up h2
  have h2 : W5.heap[w.heap.size + 1 + 1]? = some (.cells #[.int .u8 120, .int .u8 121] 5 (2, 3)) := by rw [e5]; exact hp_up h2
  have h2 : W6.heap[w.heap.size + 1 + 1]? = some (.cells #[.int .u8 120, .int .u8 121] 5 (2, 3)) := by rw [e6]; exact hp_up h2
  have h3 : W3.heap[w.heap.size + 1 + 1 + 1]? = some (.cells #[.int .i64 0, .int .i64 0] 2) := by rw [← z2, e3]; exact heap_alloc_new _ _
  have h3 : W4.heap[w.heap.size + 1 + 1 + 1]? = some (.cells #[.int .i64 0, .int .i64 0] 2) := by rw [e4]; exact hp_up h3
  have h3 : W5.heap[w.heap.size + 1 + 1 + 1]? = some (.cells #[.int .i64 0, .int .i64 0] 2) := by rw [e5]; exact hp_up h3
  have h3 : W6.heap[w.heap.size + 1 + 1 + 1]? = some (.cells #[.int .i64 0, .int .i64 0] 2) := by rw [e6]; exact hp_up h3
  have h4 : W4.heap[w.heap.size + 1 + 1 + 1 + 1]? = some (.cells #[.int .i64 1, .int .i64 0, .int .i64 0, .int .i64 (-1), .int .i64 1, .int .i64 0, .int .i64 0, .int .i64 0, .int .i64 0, .int .i64 2, .int .i64 0, .int .i64 1, .int .i64 0, .int .i64 0, .int .i64 0, .int .i64 0, .int .i64 0, .int .i64 0] 107) := by rw [← z3, e4]; exact heap_alloc_new _ _
  have h4 : W5.heap[w.heap.size + 1 + 1 + 1 + 1]? = some (.cells #[.int .i64 1, .int .i64 0, .int .i64 0, .int .i64 (-1), .int .i64 1, .int .i64 0, .int .i64 0, .int .i64 0, .int .i64 0, .int .i64 2, .int .i64 0, .int .i64 1, .int .i64 0, .int .i64 0, .int .i64 0, .int .i64 0, .int .i64 0, .int .i64 0] 107) := by rw [e5]; exact hp_up h4
  have h4 : W6.heap[w.heap.size + 1 + 1 + 1 + 1]? = some (.cells #[.int .i64 1, .int .i64 0, .int .i64 0, .int .i64 (-1), .int .i64 1, .int .i64 0, .int .i64 0, .int .i64 0, .int .i64 0, .int .i64 2, .int .i64 0, .int .i64 1, .int .i64 0, .int .i64 0, .int .i64 0, .int .i64 0, .int .i64 0, .int .i64 0] 107) := by rw [e6]; exact hp_up h4
  have h5 : W5.heap[w.heap.size + 1 + 1 + 1 + 1 + 1]? = some (.cells #[.int .i64 1, .int .i64 0, .int .i64 1, .int .i64 (-1), .int .i64 1, .int .i64 0, .int .i64 0, .int .i64 0, .int .i64 0, .int .i64 2, .int .i64 0, .int .i64 0, .int .i64 0, .int .i64 0, .int .i64 0, .int .i64 0, .int .i64 0, .int .i64 0] 107) := by rw [← z4, e5]; exact heap_alloc_new _ _
  have h5 : W6.heap[w.heap.size + 1 + 1 + 1 + 1 + 1]? = some (.cells #[.int .i64 1, .int .i64 0, .int .i64 1, .int .i64 (-1), .int .i64 1, .int .i64 0, .int .i64 0, .int .i64 0, .int .i64 0, .int .i64 2, .int .i64 0, .int .i64 0, .int .i64 0, .int .i64 0, .int .i64 0, .int .i64 0, .int .i64 0, .int .i64 0] 107) := by rw [e6]; exact hp_up h5
  have h6 : W6.heap[w.heap.size + 1 + 1 + 1 + 1 + 1 + 1]? = some (.cells #[.slice (some ⟨w.heap.size + 1 + 1 + 1 + 1, 0, none⟩) 2 2, .slice (some ⟨w.heap.size + 1 + 1 + 1 + 1 + 1, 0, none⟩) 2 2] 117) := by rw [← z5, e6]; exact heap_alloc_new _ _
  have KW : On w W6 := by rw [e6, e5, e4, e3, e2, e1, e0]; exact (((((((On.refl w).alloc _).alloc _).alloc _).alloc _).alloc _).alloc _).alloc _
  have HK : Hid (On w W6) := KW
  have HF : Hid (ProgFl W6 (.agg #[.slice (some ⟨w.heap.size + 1 + 1, 0, none⟩) 2 2, .slice (some ⟨w.heap.size + 1 + 1 + 1, 0, none⟩) 2 2, .slice (some ⟨w.heap.size + 1 + 1 + 1 + 1 + 1 + 1, 0, none⟩) 2 2]) [120, 121] [0, 0] sbL) := by
    refine ⟨_, _, _, _, _, _, rfl, rd_of h2 (fun _ => rfl) rfl rfl (by decide), rd_of h3 (fun _ => rfl) rfl rfl (by decide), ?_⟩
    refine ⟨[.slice (some ⟨w.heap.size + 1 + 1 + 1 + 1, 0, none⟩) 2 2, .slice (some ⟨w.heap.size + 1 + 1 + 1 + 1 + 1, 0, none⟩) 2 2], rfl, rd_of h6 (fun _ => rfl) rfl rfl (by decide), fun i u L hu hL => ?_⟩
    match i, hu, hL with
    | 0, hu, hL =>
      cases hu
      cases hL
      exact rd_of h4 (fun _ => rfl) rfl rfl (by decide)
    | 1, hu, hL =>
      cases hu
      cases hL
      exact rd_of h5 (fun _ => rfl) rfl rfl (by decide)
    | i + 2, hu, _ => simp at hu
  clear KW h2 h3 h4 h5 h6 z0 z1 z2 z3 z4 z5 z6
  subst e0 e1 e2 e3 e4 e5
  go_enter Tryz.func41, Tryz.ntmps41
  go_wp2
  refine bodyPost_ret (v := .agg #[.slice (some ⟨w.heap.size + 1 + 1, 0, none⟩) 2 2, .slice (some ⟨w.heap.size + 1 + 1 + 1, 0, none⟩) 2 2, .slice (some ⟨w.heap.size + 1 + 1 + 1 + 1 + 1 + 1, 0, none⟩) 2 2]) ?_ rfl ?_
  · rw [results_cell rfl]
    go_simp
  · rw [← e6]
    exact ⟨_, rfl, HF.out, HK.out⟩
end Go.Proofs.YtplihlmejnohnaaGreatDoor

namespace Go.Proofs.YtplihlmejnohnaaGreatDoor
open Go.RowKit

set_option maxHeartbeats 4000000 in
set_option maxRecDepth 8000 in
theorem ready_is (LL : List (List InsT)) (N t : Nat) (P0 P1 P2 : Value) (V : VmT) (w : World) (h : VmIn w N P0 P1 P2 V) (hp : ProgRd w (.agg #[P0, P1, P2]) LL) (ht : t < 4) :
    Calls Tryz.prog 61 #[ptV N, .int .i64 t] w fun e w' => e = .returned (.bool (readyB LL V t)) ∧ On w w' := by
  obtain ⟨B, q, hN, hR⟩ := h
  obtain ⟨b, hb, hw⟩ := hR.buf t ht
  have B1 : Hid (Bk w (B t) (bufA b)) := hb.bk
  have HN : Hid (Tb w N (vmA P0 P1 P2 V B q) 80) := hN
  have HB : Hid ((vmA P0 P1 P2 V B q)[24 + t]? = some (.pointer (some ⟨B t, 0, none⟩))) := vm_buf ht
  have b1 : (t : Int) < 4 := by omega
  have b2 : decide ((t : Int) < 0) = false := decide_eq_false (by omega)
  have b4 : (0 : Int) ≤ (t : Int) := by omega
  have hlen := hw.1
  have hE := fun W => empty_is b W
  rw [hlen] at hE
  have cN := fun W (k : On w W) => pnext_is LL t (V.l t) _ W (hp.on k)
  have HA : Hid (readyB LL V t = if hardB ((nxt LL V t).getD insZ).k then (V.b t).length == 0 else (nxt LL V t).isSome) := rfl
  unfold nxt at HA
  simp only [nextV] at cN
  obtain ⟨M, hM⟩ : ∃ M, M = B t := ⟨_, rfl⟩
  rw [← hM] at B1 HB
  obtain ⟨X, hX⟩ : ∃ X, X = (nextP (threadP LL t) (V.l t)).getD insZ := ⟨_, rfl⟩
  obtain ⟨bb, hbb⟩ : ∃ bb, bb = (nextP (threadP LL t) (V.l t)).isSome := ⟨_, rfl⟩
  obtain ⟨em, hem⟩ : ∃ em, em = ((V.b t).length == 0) := ⟨_, rfl⟩
  rw [← hX, ← hbb] at cN HA
  rw [← hem] at hE HA
  clear hb hN hR hw hM hlen hX hbb hem hp
  unfold ptV
  go_enter Tryz.func61, Tryz.ntmps61
  go_upto_region 1 with fail
  have SA : On w w.drew := (On.refl w).drew
  refine region_fz (fun W => On w W) [] 18 (by kernel_rfl) rfl ?_
  refine fz_take 0 (v := ?_) rfl (by kernel_rfl) (by kernel_rfl) (by kernel_rfl) (by kernel_rfl) (fun _ _ _ h => h) rfl ?_ SA ?_
  rotate_left
  · intro W hW
    go_simp
    (try with_reducible rfl)
  simp only [Act.put, List.setIfInBounds_toArray, List.set_cons_zero, List.set_cons_succ]
  refine fz_take 1 (v := ?_) rfl (by kernel_rfl) (by kernel_rfl) (by kernel_rfl) (by kernel_rfl) (fun _ _ _ h => h) rfl ?_ SA ?_
  rotate_left
  · intro W hW
    go_simp
    (try with_reducible rfl)
  simp only [Act.put, List.setIfInBounds_toArray, List.set_cons_zero, List.set_cons_succ]
  refine fz_take 2 (v := ?_) rfl (by kernel_rfl) (by kernel_rfl) (by kernel_rfl) (by kernel_rfl) (fun _ _ _ h => h) rfl ?_ SA ?_
  rotate_left
  · intro W hW
    go_simp
    (try with_reducible rfl)
  simp only [Act.put, List.setIfInBounds_toArray, List.set_cons_zero, List.set_cons_succ]
  refine fz_take 3 (v := ?_) rfl (by kernel_rfl) (by kernel_rfl) (by kernel_rfl) (by kernel_rfl) (fun _ _ _ h => h) rfl ?_ SA ?_
  rotate_left
  · intro W hW
    have cP := HN.out.on hW
    have c0 := cP.at (i := 0) (v := P0) rfl
    have c1 := cP.at (i := 1) (v := P1) rfl
    have c2 := cP.at (i := 2) (v := P2) rfl
    have cl := cP.lt
    go_simp
    (try with_reducible rfl)
  simp only [Act.put, List.setIfInBounds_toArray, List.set_cons_zero, List.set_cons_succ]
  refine fz_take 4 (v := ?_) rfl (by kernel_rfl) (by kernel_rfl) (by kernel_rfl) (by kernel_rfl) (fun _ _ _ h => h) rfl ?_ SA ?_
  rotate_left
  · intro W hW
    go_simp
    (try with_reducible rfl)
  simp only [Act.put, List.setIfInBounds_toArray, List.set_cons_zero, List.set_cons_succ]
  refine fz_take 5 (v := ?_) rfl (by kernel_rfl) (by kernel_rfl) (by kernel_rfl) (by kernel_rfl) (fun _ _ _ h => h) rfl ?_ SA ?_
  rotate_left
  · intro W hW
    go_simp
    (try with_reducible rfl)
  simp only [Act.put, List.setIfInBounds_toArray, List.set_cons_zero, List.set_cons_succ]
  refine fz_take 6 (v := ?_) rfl (by kernel_rfl) (by kernel_rfl) (by kernel_rfl) (by kernel_rfl) (fun _ _ _ h => h) rfl ?_ SA ?_
  rotate_left
  · intro W hW
    go_simp
    (try with_reducible rfl)
  simp only [Act.put, List.setIfInBounds_toArray, List.set_cons_zero, List.set_cons_succ]
  refine fz_take 7 (v := ?_) rfl (by kernel_rfl) (by kernel_rfl) (by kernel_rfl) (by kernel_rfl) (fun _ _ _ h => h) rfl ?_ SA ?_
  rotate_left
  · intro W hW
    go_simp
    (try with_reducible rfl)
  simp only [Act.put, List.setIfInBounds_toArray, List.set_cons_zero, List.set_cons_succ]
  refine fz_take 8 (v := ?_) rfl (by kernel_rfl) (by kernel_rfl) (by kernel_rfl) (by kernel_rfl) (fun _ _ _ h => h) rfl ?_ SA ?_
  rotate_left
  · intro W hW
    go_simp
    (try with_reducible rfl)
  simp only [Act.put, List.setIfInBounds_toArray, List.set_cons_zero, List.set_cons_succ]
  refine fz_take 9 (v := ?_) rfl (by kernel_rfl) (by kernel_rfl) (by kernel_rfl) (by kernel_rfl) (fun _ _ _ h => h) rfl ?_ SA ?_
  rotate_left
  · intro W hW
    go_simp
    (try with_reducible rfl)
  simp only [Act.put, List.setIfInBounds_toArray, List.set_cons_zero, List.set_cons_succ]
  refine fz_take 10 (v := locV (V.l t)) rfl (by kernel_rfl) (by kernel_rfl) (by kernel_rfl) (by kernel_rfl) (fun _ _ _ h => h) rfl (fun W hW => exec_loc rfl rfl (HN.out.on hW) ht) SA ?_
  simp only [Act.put, List.setIfInBounds_toArray, List.set_cons_zero, List.set_cons_succ]
  refine fz_two 11 15 rfl rfl rfl rfl (by kernel_rfl) (fun K hK => ?_) (fun K hK => ?_)
  · go_simp
    refine (cN _ (SA)).mono ?_
    rintro _ wc ⟨rfl, kc⟩
    have SC : On w wc := SA.trans kc
    refine hK.out _ _ (fun _ => SC) ?_
    clear hK
    refine fz_take 12 (v := ?_) rfl (by kernel_rfl) (by kernel_rfl) (by kernel_rfl) (by kernel_rfl) (fun _ _ _ h => h) rfl ?_ SC ?_
    rotate_left
    · intro W hW
      go_simp
      (try with_reducible rfl)
    simp only [Act.put, List.setIfInBounds_toArray, List.set_cons_zero, List.set_cons_succ]
    refine fz_take 13 (v := ?_) rfl (by kernel_rfl) (by kernel_rfl) (by kernel_rfl) (by kernel_rfl) (fun _ _ _ h => h) rfl ?_ SC ?_
    rotate_left
    · intro W hW
      go_simp
      (try with_reducible rfl)
    simp only [Act.put, List.setIfInBounds_toArray, List.set_cons_zero, List.set_cons_succ]
    refine fz_take 14 (v := ?_) rfl (by kernel_rfl) (by kernel_rfl) (by kernel_rfl) (by kernel_rfl) (fun _ _ _ h => h) rfl ?_ SC ?_
    rotate_left
    · intro W hW
      go_simp
      (try with_reducible rfl)
    simp only [Act.put, List.setIfInBounds_toArray, List.set_cons_zero, List.set_cons_succ]
    refine fz_one 15 rfl rfl (by kernel_rfl) (fun K hK => ?_)
    refine wp_al rfl ins_zero (fun wa ka ba => ?_)
    have SL : On w wa := SC.trans ka
    have LA := SC.size
    refine hK.out _ _ (fun _ => SL) ?_
    clear hK
    refine fz_one 16 rfl rfl (by kernel_rfl) (fun K hK => ?_)
    refine wp_sto (cs := (insC X).toArray) rfl rfl rfl ba ins_sz rfl (insC_one _) (fun wi BI oi => ?_)
    have SI : On w wi := oi.on SL LA
    refine hK.out _ _ (fun _ => SI) ?_
    clear hK
    refine fz_take 17 (v := ?_) rfl (by kernel_rfl) (by kernel_rfl) (by kernel_rfl) (by kernel_rfl) (fun _ _ _ h => h) rfl ?_ SI ?_
    rotate_left
    · intro W hW
      go_simp
      (try with_reducible rfl)
    simp only [Act.put, List.setIfInBounds_toArray, List.set_cons_zero, List.set_cons_succ]
    refine fz_done (by kernel_rfl) (NoPanic.normal ?_)
    have q0 := BI.at (i := 0) (v := .int .i64 X.k) rfl
    have ql := BI.lt
    have HI := SI
    clear SA LA oi BI
    cases h3 : (X.k == 3) with
    | true =>
      have hh : hardB X.k = true := by unfold hardB; rw [h3]; rfl
      have d0 := (HN.out.on HI).at HB.out
      have BM : Hid (Bk wi M (bufA b)) := B1.out.on HI
      go_wp2_with (refine wpList_bld rfl rfl rfl BM.out ?_)
      refine (hE _).mono ?_
      rintro _ w5 ⟨rfl, k5⟩
      go_wp2
      go_ret
      exact ⟨by rw [HA.out, hh]; rfl, HI.trans k5⟩
    | false =>
      cases h4 : (X.k == 4) with
      | true =>
        have hh : hardB X.k = true := by unfold hardB; rw [h3, h4]; rfl
        have d0 := (HN.out.on HI).at HB.out
        have BM : Hid (Bk wi M (bufA b)) := B1.out.on HI
        go_wp2_with (refine wpList_bld rfl rfl rfl BM.out ?_)
        refine (hE _).mono ?_
        rintro _ w5 ⟨rfl, k5⟩
        go_wp2
        go_ret
        exact ⟨by rw [HA.out, hh]; rfl, HI.trans k5⟩
      | false =>
        have hh : hardB X.k = false := by unfold hardB; rw [h3, h4]; rfl
        go_wp2
        go_ret
        exact ⟨by rw [HA.out, hh]; rfl, HI⟩
  · refine wp_al rfl ins_zero (fun wa ka ba => ?_)
    have SL : On w wa := SA.trans ka
    have LA := SA.size
    refine hK.out _ _ (fun _ => SL) ?_
    clear hK
    refine fz_one 11 rfl rfl (by kernel_rfl) (fun K hK => ?_)
    go_simp
    refine (cN _ (SL)).mono ?_
    rintro _ wc ⟨rfl, kc⟩
    have SC : On w wc := SL.trans kc
    have BC := ba.on kc
    refine hK.out _ _ (fun _ => SC) ?_
    clear hK
    refine fz_take 12 (v := ?_) rfl (by kernel_rfl) (by kernel_rfl) (by kernel_rfl) (by kernel_rfl) (fun _ _ _ h => h) rfl ?_ SC ?_
    rotate_left
    · intro W hW
      go_simp
      (try with_reducible rfl)
    simp only [Act.put, List.setIfInBounds_toArray, List.set_cons_zero, List.set_cons_succ]
    refine fz_take 13 (v := ?_) rfl (by kernel_rfl) (by kernel_rfl) (by kernel_rfl) (by kernel_rfl) (fun _ _ _ h => h) rfl ?_ SC ?_
    rotate_left
    · intro W hW
      go_simp
      (try with_reducible rfl)
    simp only [Act.put, List.setIfInBounds_toArray, List.set_cons_zero, List.set_cons_succ]
    refine fz_take 14 (v := ?_) rfl (by kernel_rfl) (by kernel_rfl) (by kernel_rfl) (by kernel_rfl) (fun _ _ _ h => h) rfl ?_ SC ?_
    rotate_left
    · intro W hW
      go_simp
      (try with_reducible rfl)
    simp only [Act.put, List.setIfInBounds_toArray, List.set_cons_zero, List.set_cons_succ]
    refine fz_one 16 rfl rfl (by kernel_rfl) (fun K hK => ?_)
    refine wp_sto (cs := (insC X).toArray) rfl rfl rfl BC ins_sz rfl (insC_one _) (fun wi BI oi => ?_)
    have SI : On w wi := oi.on SC LA
    refine hK.out _ _ (fun _ => SI) ?_
    clear hK
    refine fz_take 17 (v := ?_) rfl (by kernel_rfl) (by kernel_rfl) (by kernel_rfl) (by kernel_rfl) (fun _ _ _ h => h) rfl ?_ SI ?_
    rotate_left
    · intro W hW
      go_simp
      (try with_reducible rfl)
    simp only [Act.put, List.setIfInBounds_toArray, List.set_cons_zero, List.set_cons_succ]
    refine fz_done (by kernel_rfl) (NoPanic.normal ?_)
    have q0 := BI.at (i := 0) (v := .int .i64 X.k) rfl
    have ql := BI.lt
    have HI := SI
    clear SA LA oi BI
    cases h3 : (X.k == 3) with
    | true =>
      have hh : hardB X.k = true := by unfold hardB; rw [h3]; rfl
      have d0 := (HN.out.on HI).at HB.out
      have BM : Hid (Bk wi M (bufA b)) := B1.out.on HI
      go_wp2_with (refine wpList_bld rfl rfl rfl BM.out ?_)
      refine (hE _).mono ?_
      rintro _ w5 ⟨rfl, k5⟩
      go_wp2
      go_ret
      exact ⟨by rw [HA.out, hh]; rfl, HI.trans k5⟩
    | false =>
      cases h4 : (X.k == 4) with
      | true =>
        have hh : hardB X.k = true := by unfold hardB; rw [h3, h4]; rfl
        have d0 := (HN.out.on HI).at HB.out
        have BM : Hid (Bk wi M (bufA b)) := B1.out.on HI
        go_wp2_with (refine wpList_bld rfl rfl rfl BM.out ?_)
        refine (hE _).mono ?_
        rintro _ w5 ⟨rfl, k5⟩
        go_wp2
        go_ret
        exact ⟨by rw [HA.out, hh]; rfl, HI.trans k5⟩
      | false =>
        have hh : hardB X.k = false := by unfold hardB; rw [h3, h4]; rfl
        go_wp2
        go_ret
        exact ⟨by rw [HA.out, hh]; rfl, HI⟩
end Go.Proofs.YtplihlmejnohnaaGreatDoor
