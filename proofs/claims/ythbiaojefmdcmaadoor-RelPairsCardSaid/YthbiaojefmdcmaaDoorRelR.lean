/- Relations: Pairs. -/
import Derived.Test.YthbiaojefmdcmaaDoorRelI
import Derived.Test.YthbiaojefmdcmaaDoorSetW
import Derived.Test.YthbiaojefmdcmaaDoorOfWf
namespace Go.Proofs.YthbiaojefmdcmaaDoor
open Go.RowKit

def rowP (r : RelT) (a : Nat) : List (Int × Int) := (bits64 (r.f a)).map (fun b => ((a : Int), ((b : Nat) : Int)))
def prsN (r : RelT) (n : Nat) : List (Int × Int) := (List.range n).flatMap (rowP r)
def prsR (r : RelT) : List (Int × Int) := prsN r r.n
theorem prs_step (r : RelT) (n : Nat) : prsN r (n + 1) = prsN r n ++ rowP r n := by
  unfold prsN
  rw [List.range_succ, List.flatMap_append]
  simp
theorem rowP_len (r : RelT) (a : Nat) : (rowP r a).length ≤ 64 := by
  unfold rowP
  rw [List.length_map]
  exact cnt_le _
theorem prs_len (r : RelT) : ∀ n, (prsN r n).length ≤ 64 * n
  | 0 => by unfold prsN; simp
  | n + 1 => by
    rw [prs_step, List.length_append]
    have := prs_len r n
    have := rowP_len r n
    omega
def natC (n : Nat) : List Value := [.int .i64 n]
theorem flat_nat : ∀ L : List Nat, L.flatMap natC = L.map intV
  | [] => rfl
  | x :: L => by rw [List.flatMap_cons, flat_nat L]; rfl
theorem infoPairR : (Tryd.prog.info? 35).map (fun i => (i.zero, i.size, i.bytes)) = some (some (.agg #[.int .i64 0, .int .i64 0]), 2, 16) := by kernel_rfl
set_option maxHeartbeats 4000000 in
set_option maxRecDepth 8000 in
theorem prs_is (r : RelT) (hr : Wr r) (w : World) (hd : Dt w) :
    Calls Tryd.prog 7 #[.agg (relA r)] w fun e w' => ∃ a c, e = .returned (.slice a (prsR r).length c) ∧ w'.ownsRow (w.heap.size + 1) 35 2 (.slice a (prsR r).length c) (prsR r).length ((prsR r).flatMap pairC) ∧ On w w' := by
  obtain ⟨i0, hi0, hz0, hz1, hz2⟩ := info_parts infoPairR
  have h1 := Bk.new w (relA r) 27
  have k0 := (On.refl w).alloc (.cells (relA r) 27)
  have hc0 := h1.at (relA_zero r)
  have hn := hr.n
  obtain ⟨n, hnn⟩ : ∃ n, n = r.n := ⟨_, rfl⟩
  have HN : Hid (n = r.n) := hnn
  have e0 : prsR r = prsN r n := by rw [hnn]; rfl
  rw [← hnn] at hc0 hn
  rw [e0]
  clear hnn e0
  have HD : Hid (Dt w) := hd
  clear hd
  go_enter Tryd.func7, Tryd.ntmps7
  go_wp2
  go_loopg [3, 9] n (fun gg s3 s9 wr => ∃ a : Nat, a ≤ n ∧ gg = n - a ∧ s9 = .int .i64 a ∧ Hid (On w wr) ∧ Bk wr w.heap.size (relA r) ∧ w.heap.size + 1 ≤ wr.heap.size ∧ wr.ownsRow (w.heap.size + 1) 35 2 s3 (prsN r a).length ((prsN r a).flatMap pairC))
  case atStart => exact ⟨0, Nat.zero_le _, rfl, rfl, k0, h1, by rw [World.size_alloc]; omega, World.ownsRow_nil _ _ _ _⟩
  case round =>
    clear h1 k0 hc0
    obtain ⟨a, hi, hk, rfl, HO, D1, hsz, hown⟩ := hrel
    rcases Nat.lt_or_ge a n with hlt | hge
    · have ha6 : a < 64 := by omega
      have hca := D1.at (relA_at r ha6)
      have hl1 := D1.lt
      have hLi := fun W (k : On w W) => list_is (r.f a) (hr.w a) W (HD.out.on k)
      have hst : Hid (prsN r (a + 1) = prsN r a ++ (bits64 (r.f a)).map (fun b => ((a : Int), ((b : Nat) : Int)))) := prs_step r a
      have hpl : (prsN r a).length ≤ 64 * a := prs_len r a
      have hbl : (bits64 (r.f a)).length ≤ 64 := cnt_le _
      generalize bits64 (r.f a) = BL at *
      generalize r.f a = fa at *
      go_wp2_with fail
      refine (hLi _ HO.out).mono ?_
      rintro _ w2 ⟨xa, xc, rfl, hol, k2⟩
      have hownL := own_on hown k2
      have D2 := D1.on k2
      have HO2 : Hid (On w w2) := HO.out.trans k2
      have hs2 : w.heap.size + 1 ≤ w2.heap.size := Nat.le_trans hsz k2.size
      clear hown D1 HO hsz hca hl1 hLi k2
      go_wp2
      go_loopg [3, 18] BL.length (fun gi s3 s18 wi => ∃ j : Nat, j ≤ BL.length ∧ gi = BL.length - j ∧ s18 = .int .i64 j ∧ Hid (On w wi) ∧ Bk wi w.heap.size (relA r) ∧ w.heap.size + 1 ≤ wi.heap.size ∧ wi.ownsRow wr.heap.size 3 1 (.slice xa BL.length xc) BL.length (BL.map intV) ∧ wi.ownsRow (w.heap.size + 1) 35 2 s3 (prsN r a ++ (BL.take j).map (fun b => ((a : Int), ((b : Nat) : Int)))).length ((prsN r a ++ (BL.take j).map (fun b => ((a : Int), ((b : Nat) : Int)))).flatMap pairC))
      case atStart => exact ⟨0, Nat.zero_le _, rfl, rfl, HO2, D2, hs2, hol, by simpa using hownL⟩
      case round =>
        clear hownL D2 HO2 hs2 hol
        obtain ⟨j, hj, hjk, rfl, HO, D1, hsz, hol, hown⟩ := hrel
        rcases Nat.lt_or_ge j BL.length with hjl | hjg
        · obtain ⟨b, hb⟩ : ∃ b, BL[j]? = some b := ⟨_, List.getElem?_eq_getElem hjl⟩
          have htk : BL.take (j + 1) = BL.take j ++ [b] := by
            rw [List.take_add_one, hb]
            rfl
          have hlt' : ∀ g, u3.ownBlock = some g → w.heap.size + 1 ≤ g := fun g hg => (hown.lt g hg).1
          have hrd : Rd natC 1 wr (.slice xa BL.length xc) BL := Rd.own (fun _ => rfl) (by rw [flat_nat]; exact hol)
          obtain ⟨g, off, rfl, hg, u0⟩ := hrd.at hb
          have hcb := u0 0 _ rfl
          simp only [Nat.mul_one, Nat.add_zero] at hcb
          obtain ⟨U, hU⟩ : ∃ U, U = prsN r a ++ (BL.take j).map (fun b => ((a : Int), ((b : Nat) : Int))) := ⟨_, rfl⟩
          have hUl : U.length ≤ 64 * a + 64 := by rw [hU]; simp; omega
          have hU2 : Hid (prsN r a ++ (BL.take (j + 1)).map (fun b => ((a : Int), ((b : Nat) : Int))) = U ++ [((a : Int), (b : Int))]) := by
            show _ = _
            rw [htk, hU, List.map_append, List.append_assoc]
            rfl
          rw [← hU] at hown
          clear hU htk u0 hb hrd
          go_wp2_with (at_builtin; refine wpList_append_own _ rfl _ _ 22 rfl (w.heap.size + 1) 35 i0 (.agg #[.int .i64 0, .int .i64 0]) 2 16 Tryd.underlying22 hi0 hz0 hz1 hz2 rfl (by decide) _ _ _ rfl (hown.alloc _) ⟨wr.heap.size, 0, none⟩ 1 1 [.int .i64 a, .int .i64 b] rfl rfl ?c1 ?c2 ?c3 ?c4 ?c5 ?_)
          case c1 =>
            intro j u hu
            rw [new_cell]
            exact hu
          case c2 =>
            intro u hu
            simp only [List.mem_cons, List.not_mem_nil, or_false] at hu
            rcases hu with rfl | rfl <;> rfl
          case c3 => unfold maxLen; omega
          case c4 => omega
          case c5 => simp only [World.size_alloc]; omega
          intro v' w4 hown4 hg4 _
          have hol4 := own_far (hol.alloc (.cells #[.int .i64 a, .int .i64 b] 35)) (hown.alloc (.cells #[.int .i64 a, .int .i64 b] 35)) (by decide) hg4
          have D4 := (D1.alloc (.cells #[.int .i64 a, .int .i64 b] 35)).grown hg4 (Nat.lt_succ_self _) hlt'
          have K4 := (HO.out.alloc (.cells #[.int .i64 a, .int .i64 b] 35)).grown hg4 (fun g hg => by have := hlt' g hg; omega)
          have hs4 : w.heap.size + 1 ≤ w4.heap.size := by have := hg4.size; rw [World.size_alloc] at this; omega
          go_wp2
          go_roundg (BL.length - (j + 1))
          case measure => omega
          case rel => exact ⟨j + 1, hjl, rfl, by congr 1, K4, D4, hs4, hol4, by rw [hU2.out]; simpa [pairC] using hown4⟩
        · obtain rfl : j = BL.length := by omega
          rw [List.take_of_length_le (Nat.le_refl _), ← hst.out] at hown
          go_wp2
          go_roundg (n - (a + 1))
          case measure => omega
          case rel => exact ⟨a + 1, hlt, rfl, by congr 1, HO, D1, hsz, hown⟩
    · obtain rfl : a = n := by omega
      obtain ⟨ax, cx, rfl⟩ := own_slice hown
      go_wp2
      go_ret
      exact ⟨ax, cx, rfl, hown, HO.out⟩
end Go.Proofs.YthbiaojefmdcmaaDoor
