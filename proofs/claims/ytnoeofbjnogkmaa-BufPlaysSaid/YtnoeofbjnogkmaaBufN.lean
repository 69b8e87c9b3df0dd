/- buf.Newest. -/
import Derived.Test.YtnoeofbjnogkmaaBufL
namespace Go.Proofs.Ytnoeofbjnogkmaa
open Go.RowKit

theorem newest_none {c : Int} {L : List EnT} {k : Nat} (h : newestL c L = newestL c (L.take k)) (h0 : k = 0) : newestL c L = none := by
  rw [h, h0]
  rfl
theorem newest_some {c : Int} {L : List EnT} {k : Nat} {e : EnT} (h : newestL c L = newestL c (L.take (k + 1))) (he : L[k]? = some e) (hc : e.1 = c) : newestL c L = some e := by
  rw [h, List.take_add_one, he, Option.toList_some, newestL_append, if_pos hc]
theorem newest_step {c : Int} {L : List EnT} {k : Nat} {e : EnT} (h : newestL c L = newestL c (L.take (k + 1))) (he : L[k]? = some e) (hc : ¬ e.1 = c) : newestL c L = newestL c (L.take k) := by
  rw [h, List.take_add_one, he, Option.toList_some, newestL_append, if_neg hc]
/-- What Newest's loop carries. -/
structure NwJ (w wr : World) (N : Nat) (b : BufT) (c : Int) (L : List EnT) (x k : Nat) (p : Int) : Prop where
  on : On w wr
  bk : Bk wr N (bufA b)
  pos : p = (x : Int) + k - 1
  new : newestL c L = newestL c (L.take k)
set_option maxHeartbeats 2000000 in
set_option maxRecDepth 8000 in
theorem newest_is (b : BufT) (c : Int) (w : World) : Calls Try.prog 18 #[.agg (bufA b), .int .i64 c] w fun e w' => e = .returned (newV (newestB b c)) ∧ On w w' := by
  obtain ⟨W1, hW1⟩ : ∃ W1, W1 = w.alloc (.cells (bufA b) 27) := ⟨_, rfl⟩
  have B1 : Hid (Bk W1 w.heap.size (bufA b)) := by show Bk _ _ _; rw [hW1]; exact Bk.new w _ _
  have K1 : Hid (On w W1) := by show On _ _; rw [hW1]; exact (On.refl w).alloc _
  have hS := span_is b c W1
  obtain ⟨hab, hbl⟩ := sp_le b c
  have hl := b.len
  have HRL : Hid ((rowB b c).length = spB b c - spA b c) := rowB_len b c
  have HRA : Hid (∀ k e, (rowB b c)[k]? = some e → b.l[spA b c + k]? = some e) := fun k e he => by
    have := (List.getElem?_eq_some_iff.1 he).1
    rw [rowB_len] at this
    rw [rowB_at (by omega)] at he
    exact he
  have eN : newestB b c = newestL c (rowB b c) := rfl
  rw [eN]
  obtain ⟨L, hL⟩ : ∃ L, L = rowB b c := ⟨_, rfl⟩
  rw [← hL] at HRA HRL ⊢
  obtain ⟨x, hx⟩ : ∃ x, x = spA b c := ⟨_, rfl⟩
  obtain ⟨y, hy⟩ : ∃ y, y = spB b c := ⟨_, rfl⟩
  rw [← hx] at hS HRA HRL hab
  rw [← hy] at hS HRL hab hbl
  have HXY : Hid (x ≤ y ∧ y ≤ 24) := ⟨hab, by omega⟩
  obtain ⟨A, hA⟩ : ∃ A, A = newestL c L := ⟨_, rfl⟩
  have HA : Hid (A = newestL c L) := hA
  rw [← hA]
  have hov0 : wrap64 ((y : Int) - 1) = (y : Int) - 1 := IntWalk.wrap64_in _ ⟨by omega, by omega⟩
  clear hx hy hL eN hab hbl hl hA
  go_enter Try.func18, Try.ntmps18
  go_upto_region 1 with fail
  rw [← hW1]
  clear hW1
  generalize w.heap.size = N at *
  go_wp2_with (refine wpList_bld rfl rfl rfl B1.out ?_)
  refine hS.mono ?_
  rintro _ w1 ⟨rfl, k1⟩
  have J1 : Hid (NwJ w w1 N b c L x (y - x) ((y : Int) - 1)) := ⟨K1.out.trans k1, B1.out.on k1, by have := HXY.out; omega, by rw [List.take_of_length_le (by rw [HRL.out]; exact Nat.le_refl _)]⟩
  clear k1
  go_wp2
  go_loopg [9] (y - x) (fun gg s9 wr => ∃ p : Int, gg ≤ y - x ∧ s9 = .int .i64 p ∧ Hid (NwJ w wr N b c L x gg p))
  case atStart => exact ⟨_, Nat.le_refl _, rfl, by show NwJ _ _ _ _ _ _ _ _ _; rw [hov0]; exact J1.out⟩
  case round =>
    obtain ⟨p, hk, rfl, HJ⟩ := hrel
    have HK : Hid (gk ≤ y - x) := hk
    clear hk J1 hov0
    cases gk with
    | zero =>
      have hp : decide ((x : Int) ≤ p) = false := decide_eq_false (by have := HJ.out.pos; omega)
      have HF : Hid (A = none) := HA.out.trans (newest_none HJ.out.new rfl)
      go_wp2
      (try simp only [Exit.inBlock, Exit.then]); refine bodyPost_ret (results_tmp3 rfl _ _ _) rfl ?_
      exact ⟨by rw [HF.out]; rfl, HJ.out.on⟩
    | succ k =>
      obtain ⟨q, hq⟩ : ∃ q : Nat, q = x + k := ⟨_, rfl⟩
      have HQ : Hid (q = x + k) := hq
      obtain rfl : p = (q : Int) := by have := HJ.out.pos; omega
      have hq24 : q < 24 := by have := HXY.out; have := HK.out; omega
      have hp : (x : Int) ≤ (q : Int) := by omega
      have b1 : (q : Int) < 24 := by omega
      have b2 : decide ((q : Int) < 0) = false := decide_eq_false (by omega)
      have b4 : (0 : Int) ≤ (q : Int) := by omega
      have hov : wrap64 ((q : Int) - 1) = (q : Int) - 1 := IntWalk.wrap64_in _ ⟨by omega, by omega⟩
      obtain ⟨e, he⟩ : ∃ e, L[k]? = some e := ⟨_, List.getElem?_eq_getElem (by rw [HRL.out]; have := HK.out; omega)⟩
      have HE : Hid (L[k]? = some e) := he
      have R1 : Hid (wr.rangeAt N (2 + q * 3) (entC e)) := HJ.out.bk.enR (padR_at (by rw [HQ.out]; exact HRA.out _ _ he))
      obtain ⟨W2, hW2⟩ : ∃ W2, W2 = wr.alloc (.cells (entA e) 24) := ⟨_, rfl⟩
      have B2 : Bk W2 wr.heap.size (entA e) := by rw [hW2]; exact Bk.new wr _ _
      have K3 : Hid (On wr W2) := by show On _ _; rw [hW2]; exact (On.refl wr).alloc _
      have c0 := B2.at (i := 0) (v := .int .i64 e.1) rfl
      have c1 := B2.at (i := 1) (v := .int .i64 e.2.1) rfl
      have c2 := B2.at (i := 2) (v := .int .i64 e.2.2) rfl
      have HW2 : Hid (W2 = wr.alloc (.cells (entA e) 24)) := hW2
      clear B2 hW2 he hq hq24
      by_cases hc : e.1 = c
      · have HF : Hid (A = some e) := HA.out.trans (newest_some HJ.out.new HE.out hc)
        rw [hc] at c0
        clear hc
        go_wp2_with (first | (refine wpList_eld rfl rfl rfl R1.out ?_) | (refine wpList_estN rfl rfl rfl rfl (by exact rfl) ?_; rw [← HW2.out]))
        go_quiet (fail)
        go_wp2
        (try simp only [Exit.inBlock, Exit.then]); refine bodyPost_ret (results_tmp3 rfl _ _ _) rfl ?_
        exact ⟨by rw [HF.out]; rfl, (HJ.out.on.trans K3.out).drewN _⟩
      · have hcc : (e.1 == c) = false := by simp [hc]
        have J2 : Hid (NwJ w W2 N b c L x k ((q : Int) - 1)) := ⟨HJ.out.on.trans K3.out, HJ.out.bk.on K3.out, by rw [HQ.out]; push_cast; rfl, newest_step HJ.out.new HE.out hc⟩
        generalize e.1 = ec at c0 hcc
        clear hc
        go_wp2_with (first | (refine wpList_eld rfl rfl rfl R1.out ?_) | (refine wpList_estN rfl rfl rfl rfl (by exact rfl) ?_; rw [← HW2.out]))
        go_roundg k
        case measure => omega
        case rel => exact ⟨_, Nat.le_of_succ_le HK.out, rfl, J2.out⟩
end Go.Proofs.Ytnoeofbjnogkmaa
