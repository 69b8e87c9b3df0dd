/- The program's package order: Greedy, First. -/
import Derived.Test.YtohngifmbnlmmaaDoorOrdQ
namespace Go.Proofs.YtohngifmbnlmmaaDoor
open Go.RowKit

def GrPost (o : Option (List Nat)) (w : World) (e : Ending) (w' : World) : Prop :=
  match o with
  | none => e = .returned (.tuple #[.slice none 0 0, .bool false]) ∧ On w w'
  | some l => ∃ g c, e = .returned (.tuple #[.slice (some ⟨g, 0, none⟩) l.length c, .bool true]) ∧ w.heap.size ≤ g ∧ l.length ≤ c ∧ Rw w' g (ints l) ∧ On w w'
theorem own_rw {w : World} {base : Nat} {e : TypeId} {v : Value} {L : List Nat} (h : w.ownsRow base e 1 v L.length (L.map intV)) (hv : v ≠ .slice none 0 0) : ∃ g c, v = .slice (some ⟨g, 0, none⟩) L.length c ∧ base ≤ g ∧ L.length ≤ c ∧ Rw w g (ints L) := by
  rcases h.2 with ⟨h1, _⟩ | ⟨g, cap, cur, hv, hb, hh, hc, hm, hs, ht⟩
  · exact absurd h1 hv
  · refine ⟨g, cap, hv, hb, hc, cur.toList.drop L.length, e, ?_⟩
    have e1 : (ints L).map (Value.int .i64) = L.map intV := by unfold ints; rw [List.map_map]; rfl
    rw [Nat.mul_one] at ht
    rw [e1, ← ht, List.take_append_drop]
    simpa using hh
theorem need_x {r : RelT} (hr : Wf r) : ∀ x ∈ needL r, x < 18446744073709551616 := fun x hx => by
  unfold needL at hx
  obtain ⟨a, _, rfl⟩ := List.mem_map.1 hx
  exact (inv_wf hr).wr.w a
set_option maxHeartbeats 4000000 in
set_option maxRecDepth 8000 in
theorem greedy_is (r : RelT) (hr : Wf r) (R : List Int) (v : Value) (w : World) (hR : Rd intC 1 w v R) (hd : Dt w) :
    Calls Tryd.prog 17 #[.agg (relA r), v] w (GrPost (greedyP (needL r).length (DL2D (needL r)) (bestN R) (needL r).length 0) w) := by
  obtain ⟨i0, hi, hz0, hz1, hz2⟩ := info_parts infoInt
  have h1 := Bk.new w (relA r) 27
  have k0 := (On.refl w).alloc (.cells (relA r) 27)
  have hn : (needL r).length ≤ 64 := by rw [need_len]; exact hr.n
  have hx := need_x hr
  have hnd := fun W => needs_is r hr W
  generalize needL r = DL at *
  obtain ⟨n, hnn⟩ : ∃ n, n = DL.length := ⟨_, rfl⟩
  obtain ⟨G, hG⟩ : ∃ G, G = greedyP DL.length (DL2D DL) (bestN R) DL.length 0 := ⟨_, rfl⟩
  rw [← hG]
  rw [← hnn] at hG hn
  have HG : Hid (G = (greedyP n (DL2D DL) (bestN R) (n - 0) 0).map ([] ++ ·)) := by
    show G = _
    rw [hG, Nat.sub_zero]
    cases greedyP n (DL2D DL) (bestN R) n 0 <;> rfl
  have HNN : Hid (n = DL.length) := hnn
  have HX : Hid (∀ x ∈ DL, x < 18446744073709551616) := hx
  have HR : Hid (Rd intC 1 w v R) := hR
  have HD : Hid (Dt w) := hd
  rw [← hnn] at hnd
  clear hG hnn hx hR hd hr
  go_enter Tryd.func17, Tryd.ntmps17
  go_wp2_with (refine wpList_ld rfl rfl rfl h1 ?_)
  refine (hnd _).mono ?_
  rintro _ w1 ⟨an, cn, rfl, hrd, k1⟩
  have K1 := k0.trans k1
  have ND : Hid (Nd w1 (.slice an n cn) DL) := ⟨hrd, by rw [← HNN.out]; exact hn, HX.out, HD.out.on K1⟩
  clear hrd k0 k1 h1 hnd
  obtain ⟨w2, hmk, hown, hgr⟩ := run_make_own (P := Tryd.prog) w1 w1.heap.size 36 3 i0 (.int .i64 0) 1 Tryd.underlying36 hi hz0 hz1 .i64 .i64 n (by rw [hz2]; omega) (by unfold maxLen; omega) (Nat.le_refl _)
  have k2 : On w1 w2 := (On.refl w1).grownNone hgr
  have K2 := K1.trans k2
  clear hgr
  go_wp2
  clear hmk
  go_loopg [7, 8, 18] n (fun gg s7 s8 s18 wr => ∃ (i t : Nat) (L : List Nat), i ≤ n ∧ gg = n - i ∧ s18 = .int .i64 i ∧ s8 = .int .u64 t ∧ t < 18446744073709551616 ∧ wr.ownsRow w1.heap.size 3 1 s7 L.length (L.map intV) ∧ Hid (s7 ≠ .slice none 0 0) ∧ L.length ≤ i ∧ Hid (On w wr) ∧ Hid (On w1 wr) ∧ Hid (G = (greedyP n (DL2D DL) (bestN R) (n - i) t).map (L ++ ·)))
  case atStart => exact ⟨0, 0, [], Nat.zero_le _, rfl, rfl, rfl, by decide, hown, (fun h => by cases h), Nat.le_refl _, K2, k2, HG⟩
  case round =>
    clear HG hown K2 k2
    obtain ⟨i, t, L, hin, hk, rfl, rfl, ht, hown, HNE, hL, HO, HO1, HG⟩ := hrel
    rcases Nat.lt_or_ge i n with hlt | hge
    · have hfr := (ND.out.on HO1.out).free t ht
      have hfl := free_lt DL.length (DL2D DL) t
      rw [← HNN.out] at hfr hfl
      have e2 : n - i = (n - (i + 1)) + 1 := by omega
      have HG1 := HG.out
      rw [e2, greedyP] at HG1
      clear HG e2
      have hbl := best_mem R (freeN n (DL2D DL) t) hfl
      have hle := fun (h0 : freeN n (DL2D DL) t ≠ 0) W (k : On w W) => least_is _ hfl h0 R v W (HR.out.on k) (HD.out.on k)
      generalize freeN n (DL2D DL) t = F at *
      by_cases h0 : F = 0
      · subst h0
        rw [if_pos rfl] at HG1
        have HGN : Hid (G = none) := HG1
        clear HG1 hle hbl
        go_wp2_with fail
        refine hfr.mono ?_
        rintro _ w3 ⟨rfl, hw3⟩
        subst w3
        go_wp2
        go_ret2
        rw [HGN.out]
        exact ⟨rfl, HO.out⟩
      · rw [if_neg h0] at HG1
        have hF0 : ((F : Int) == 0) = false := by simpa using (by omega : ¬ (F : Int) = 0)
        have hle2 := hle h0
        have hb64 : bestN R F < 64 := ((mem64 _ _).1 (hbl h0)).1
        have hwi := fun W => with_is t (bestN R F : Int) ht W
        have hwl := with_lt t (bestN R F : Int) ht
        have HG2 : Hid (G = (greedyP n (DL2D DL) (bestN R) (n - (i + 1)) (withI t (bestN R F : Int))).map ((L ++ [bestN R F]) ++ ·)) := by
          show G = _
          rw [HG1]
          cases greedyP n (DL2D DL) (bestN R) (n - (i + 1)) (withI t (bestN R F : Int)) with
          | none => rfl
          | some m => simp
        clear HG1 hle hbl
        generalize bestN R F = b at *
        generalize withI t (b : Int) = t2 at *
        have hlt7 : ∀ g, u7.ownBlock = some g → w1.heap.size ≤ g := fun g hg => (hown.lt g hg).1
        have hs1 := HO1.out.size
        go_wp2_with fail
        refine hfr.mono ?_
        rintro _ w3 ⟨rfl, hw3⟩
        subst w3
        go_wp2_with fail
        refine (hle2 _ HO.out).mono ?_
        rintro _ w4 ⟨rfl, k4⟩
        have hown4 := own_on hown k4
        have hs4 := k4.size
        go_wp2_with (at_builtin; refine wpList_append_own _ rfl _ _ 36 rfl w1.heap.size 3 i0 (.int .i64 0) 1 8 Tryd.underlying36 hi hz0 hz1 hz2 rfl (by decide) _ _ _ rfl (hown4.alloc _) ⟨w4.heap.size, 0, none⟩ 1 1 [intV b] rfl rfl ?c1 ?c2 ?c3 ?c4 ?c5 ?_)
        case c1 =>
          intro j u hu
          rw [new_cell]
          exact hu
        case c2 =>
          intro u hu
          simp only [List.mem_cons, List.not_mem_nil, or_false] at hu
          subst hu
          rfl
        case c3 => unfold maxLen; omega
        case c4 => omega
        case c5 => simp only [World.size_alloc]; omega
        intro v' w5 hown5 hg5 hnil
        have HNE2 : Hid (v' ≠ .slice none 0 0) := hnil
        have KA1 : Hid (On w1 w5) := ((HO1.out.trans k4).alloc _).grown hg5 hlt7
        have KA : Hid (On w w5) := K1.trans KA1.out
        have hown6 : w5.ownsRow w1.heap.size 3 1 v' (L ++ [b]).length ((L ++ [b]).map intV) := by simpa using hown5
        have hL2 : (L ++ [b]).length ≤ i + 1 := by simp; omega
        clear hown hown4 hown5 HO HO1 hg5 hnil HNE k4 hle2
        go_wp2_with fail
        refine (hwi _).mono ?_
        rintro _ w6 ⟨rfl, hw6⟩
        subst w6
        go_wp2
        go_roundg (n - (i + 1))
        case measure => omega
        case rel => exact ⟨i + 1, t2, L ++ [b], hlt, rfl, by congr 1, rfl, hwl, hown6, HNE2, hL2, KA, KA1, HG2⟩
    · obtain rfl : n = i := by omega
      obtain ⟨g, c, rfl, hg, hc, hrw⟩ := own_rw hown HNE.out
      have e : G = some L := by rw [HG.out, Nat.sub_self, greedyP]; simp
      have HGS : Hid (G = some L) := e
      have hsz := K1.size
      clear e HG
      go_wp2
      go_ret2
      rw [HGS.out]
      exact ⟨g, c, rfl, by omega, hc, hrw, HO.out⟩
set_option maxHeartbeats 1000000 in
theorem frst_is (r : RelT) (hr : Wf r) (w : World) (hd : Dt w) :
    Calls Tryd.prog 19 #[.agg (relA r)] w (GrPost (greedyP (needL r).length (DL2D (needL r)) (bestN []) (needL r).length 0) w) := by
  have h1 := Bk.new w (relA r) 27
  have k0 := (On.refl w).alloc (.cells (relA r) 27)
  have hg := fun W (k : On w W) => greedy_is r hr [] (.slice none 0 0) W (Rd.nil _ _ _) (hd.on k)
  generalize greedyP (needL r).length (DL2D (needL r)) (bestN []) (needL r).length 0 = G at *
  go_enter Tryd.func19, Tryd.ntmps19
  go_wp2_with (refine wpList_ld rfl rfl rfl h1 ?_)
  refine (hg _ k0).mono ?_
  cases G with
  | none =>
    rintro _ w1 ⟨rfl, k1⟩
    go_wp2
    go_ret2
    exact ⟨rfl, k0.trans k1⟩
  | some l =>
    rintro _ w1 ⟨g, c, rfl, hgs, hc, hrw, k1⟩
    have hs := k0.size
    go_wp2
    go_ret2
    exact ⟨g, c, rfl, by omega, hc, hrw, k0.trans k1⟩
end Go.Proofs.YtohngifmbnlmmaaDoor
