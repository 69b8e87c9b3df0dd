/- SetUptos, walked. -/
import Derived.Test.YtpfhfabhjnmlfaaDoorUptosP
import Derived.Test.YtpfhfabhjnmlfaaDoorAwake7
namespace Go.Proofs.YtpfhfabhjnmlfaaDoor
open Go.RowKit

theorem flat_int : ∀ L : List Nat, (L.map fun i : Nat => (i : Int)).flatMap intC = L.map intV
  | [] => rfl
  | i :: L => by rw [List.map_cons, List.flatMap_cons, flat_int L]; rfl
theorem list_rd {w : World} {base : Nat} {v : Value} {L : List Nat} (h : w.ownsRow base 3 1 v L.length (L.map intV)) : Rd intC 1 w v (L.map fun i : Nat => (i : Int)) := by
  refine Rd.own (base := base) (e := 3) (fun _ => rfl) ?_
  rw [flat_int, List.length_map]
  exact h
set_option maxHeartbeats 4000000 in
set_option maxRecDepth 8000 in
theorem setUptos_walk (n : Int) (s : Nat) (i : Int) (hs : s < 18446744073709551616) (w : World) (hd : Dt w) :
    Calls Tryd.prog 6 #[.int .i64 n, .int .u64 s, .int .i64 i] w fun e w' => e = .returned (.bool true) ∧ On w w' := by
  have hA := fun W (k : On w W) => awake7_is W (hd.on k)
  obtain ⟨q, hql, hqe⟩ : ∃ q : Nat, q < 64 ∧ bits .and .i64 i 63 = (q : Int) := by
    obtain ⟨q, hq, hqe, _⟩ := i64_low i 6 63 (by decide) (by decide)
    exact ⟨q, hq, hqe⟩
  have hW := fun W => with_is s q hs W
  have hWL := fun W => less_is (withI s q) q (with_lt s q hs) W
  rw [out_in s q hs] at hWL
  have hL := fun W => less_is s q hs W
  have hLW := fun W => with_is (lessI s q) q (less_lt s q hs) W
  rw [in_out s q hs] at hLW
  have hH := fun W => has_is (withI s q) q (with_lt s q hs) W
  rw [in_has s q hql] at hH
  have hI := fun W (k : On w W) => list_is s hs W (hd.on k)
  have hO := fun (v : Value) (W : World) h => of_is ((bits64 s).map fun i : Nat => (i : Int)) v W h
  rw [show ofI 0 ((bits64 s).map fun i : Nat => (i : Int)) = s from of_bits s hs] at hO
  have hU := fun W => upto_is n W
  have hul := upto_lt n
  have hC := fun W => len_is (uptoI n) hul W
  have hX := fun W => has_is (uptoI n) 0 hul W
  clear hd
  generalize withI s q = ws at *
  generalize lessI s q = ls at *
  obtain h0 | h0 : n < 1 ∨ 1 ≤ n := by omega
  · have hu := upto_zero n (by omega)
    rw [hu] at hU hC hul
    have hX2 := fun W => has_is 0 0 (by decide) W
    rw [show hasI 0 0 = false by decide +kernel] at hX2
    rw [show cnt64 0 = 0 by decide +kernel] at hC
    clear hX hu hul
    obtain rfl | h1 : n = 0 ∨ n < 0 := by omega
    · clear h0
      go_enter Tryd.func6, Tryd.ntmps6
      go_wp2_with fail
      refine (hU _).mono ?_
      rintro _ _ ⟨rfl, rfl⟩
      go_wp2_with fail
      refine (hC _).mono ?_
      rintro _ _ ⟨rfl, rfl⟩
      go_wp2_with fail
      refine (hX2 _).mono ?_
      rintro _ _ ⟨rfl, rfl⟩
      go_wp2_with fail
      refine (hW _).mono ?_
      rintro _ _ ⟨rfl, rfl⟩
      go_wp2_with fail
      refine (hWL _).mono ?_
      rintro _ _ ⟨rfl, rfl⟩
      go_wp2_with fail
      refine (hL _).mono ?_
      rintro _ _ ⟨rfl, rfl⟩
      go_wp2_with fail
      refine (hL _).mono ?_
      rintro _ _ ⟨rfl, rfl⟩
      go_wp2_with fail
      refine (hLW _).mono ?_
      rintro _ _ ⟨rfl, rfl⟩
      go_wp2_with fail
      refine (hW _).mono ?_
      rintro _ _ ⟨rfl, rfl⟩
      go_wp2_with fail
      refine (hW _).mono ?_
      rintro _ _ ⟨rfl, rfl⟩
      go_wp2_with fail
      refine (hH _).mono ?_
      rintro _ _ ⟨rfl, rfl⟩
      go_wp2_with fail
      refine (hI _ (On.refl _)).mono ?_
      rintro e w1 ⟨a, c, rfl, ho, k1⟩
      have hr := list_rd ho
      clear ho
      go_wp2_with fail
      refine (hO _ _ hr).mono ?_
      rintro _ _ ⟨rfl, rfl⟩
      go_wp2_with fail
      refine (hA _ k1).mono ?_
      rintro e w2 ⟨rfl, k2⟩
      go_wp2
      go_ret
      exact ⟨rfl, k1.trans k2⟩

    · clear h0
      go_enter Tryd.func6, Tryd.ntmps6
      go_wp2_with fail
      refine (hU _).mono ?_
      rintro _ _ ⟨rfl, rfl⟩
      go_wp2_with fail
      refine (hC _).mono ?_
      rintro _ _ ⟨rfl, rfl⟩
      go_wp2_with fail
      refine (hX2 _).mono ?_
      rintro _ _ ⟨rfl, rfl⟩
      go_wp2_with fail
      refine (hW _).mono ?_
      rintro _ _ ⟨rfl, rfl⟩
      go_wp2_with fail
      refine (hWL _).mono ?_
      rintro _ _ ⟨rfl, rfl⟩
      go_wp2_with fail
      refine (hL _).mono ?_
      rintro _ _ ⟨rfl, rfl⟩
      go_wp2_with fail
      refine (hL _).mono ?_
      rintro _ _ ⟨rfl, rfl⟩
      go_wp2_with fail
      refine (hLW _).mono ?_
      rintro _ _ ⟨rfl, rfl⟩
      go_wp2_with fail
      refine (hW _).mono ?_
      rintro _ _ ⟨rfl, rfl⟩
      go_wp2_with fail
      refine (hW _).mono ?_
      rintro _ _ ⟨rfl, rfl⟩
      go_wp2_with fail
      refine (hH _).mono ?_
      rintro _ _ ⟨rfl, rfl⟩
      go_wp2_with fail
      refine (hI _ (On.refl _)).mono ?_
      rintro e w1 ⟨a, c, rfl, ho, k1⟩
      have hr := list_rd ho
      clear ho
      go_wp2_with fail
      refine (hO _ _ hr).mono ?_
      rintro _ _ ⟨rfl, rfl⟩
      go_wp2_with fail
      refine (hA _ k1).mono ?_
      rintro e w2 ⟨rfl, k2⟩
      go_wp2
      go_ret
      exact ⟨rfl, k1.trans k2⟩

  · obtain ⟨k, hk1, hk2, rfl⟩ | h2 : (∃ k : Nat, 1 ≤ k ∧ k ≤ 64 ∧ n = (k : Int)) ∨ 64 < n := by
      obtain h | h : 64 < n ∨ n ≤ 64 := by omega
      · exact Or.inr h
      · exact Or.inl ⟨n.toNat, by omega, by omega, by omega⟩
    · have hu := upto_mid k hk2
      obtain ⟨f1, f2, f3⟩ := upto_facts k hk2
      have hX1 := fun W => has_is (uptoI k) ((k : Int) - 1) hul W
      have hX2 := fun W => has_is (uptoI k) k hul W
      have f1 : cnt64 (uptoI k) = k := by rw [hu]; exact f1
      rw [f1] at hC
      rw [show hasI (uptoI k) ((k : Int) - 1) = true by rw [hu]; exact f2 (by omega)] at hX1
      rw [show hasI (uptoI k) k = false by rw [hu]; exact f3] at hX2
      clear hX hu f1 f2 f3 hul
      generalize uptoI k = u at *
      go_enter Tryd.func6, Tryd.ntmps6
      go_wp2_with fail
      refine (hU _).mono ?_
      rintro _ _ ⟨rfl, rfl⟩
      go_wp2_with fail
      refine (hC _).mono ?_
      rintro _ _ ⟨rfl, rfl⟩
      go_wp2_with fail
      refine (hX1 _).mono ?_
      rintro _ _ ⟨rfl, rfl⟩
      go_wp2_with fail
      refine (hX2 _).mono ?_
      rintro _ _ ⟨rfl, rfl⟩
      go_wp2_with fail
      refine (hW _).mono ?_
      rintro _ _ ⟨rfl, rfl⟩
      go_wp2_with fail
      refine (hWL _).mono ?_
      rintro _ _ ⟨rfl, rfl⟩
      go_wp2_with fail
      refine (hL _).mono ?_
      rintro _ _ ⟨rfl, rfl⟩
      go_wp2_with fail
      refine (hL _).mono ?_
      rintro _ _ ⟨rfl, rfl⟩
      go_wp2_with fail
      refine (hLW _).mono ?_
      rintro _ _ ⟨rfl, rfl⟩
      go_wp2_with fail
      refine (hW _).mono ?_
      rintro _ _ ⟨rfl, rfl⟩
      go_wp2_with fail
      refine (hW _).mono ?_
      rintro _ _ ⟨rfl, rfl⟩
      go_wp2_with fail
      refine (hH _).mono ?_
      rintro _ _ ⟨rfl, rfl⟩
      go_wp2_with fail
      refine (hI _ (On.refl _)).mono ?_
      rintro e w1 ⟨a, c, rfl, ho, k1⟩
      have hr := list_rd ho
      clear ho
      go_wp2_with fail
      refine (hO _ _ hr).mono ?_
      rintro _ _ ⟨rfl, rfl⟩
      go_wp2_with fail
      refine (hA _ k1).mono ?_
      rintro e w2 ⟨rfl, k2⟩
      go_wp2
      go_ret
      exact ⟨rfl, k1.trans k2⟩

    · have hu := upto_top n (by omega)
      rw [hu] at hU hC hul
      have hX1 := fun W => has_is (2 ^ 64 - 1) 63 (by decide) W
      have hX2 := fun W => has_is (2 ^ 64 - 1) 64 (by decide) W
      rw [show hasI (2 ^ 64 - 1) 63 = true by decide +kernel] at hX1
      rw [show hasI (2 ^ 64 - 1) 64 = false by decide +kernel] at hX2
      rw [show cnt64 (2 ^ 64 - 1) = 64 by decide +kernel] at hC
      clear hX hu hul
      generalize 2 ^ 64 - 1 = u at *
      go_enter Tryd.func6, Tryd.ntmps6
      go_wp2_with fail
      refine (hU _).mono ?_
      rintro _ _ ⟨rfl, rfl⟩
      go_wp2_with fail
      refine (hC _).mono ?_
      rintro _ _ ⟨rfl, rfl⟩
      go_wp2_with fail
      refine (hX1 _).mono ?_
      rintro _ _ ⟨rfl, rfl⟩
      go_wp2_with fail
      refine (hX2 _).mono ?_
      rintro _ _ ⟨rfl, rfl⟩
      go_wp2_with fail
      refine (hW _).mono ?_
      rintro _ _ ⟨rfl, rfl⟩
      go_wp2_with fail
      refine (hWL _).mono ?_
      rintro _ _ ⟨rfl, rfl⟩
      go_wp2_with fail
      refine (hL _).mono ?_
      rintro _ _ ⟨rfl, rfl⟩
      go_wp2_with fail
      refine (hL _).mono ?_
      rintro _ _ ⟨rfl, rfl⟩
      go_wp2_with fail
      refine (hLW _).mono ?_
      rintro _ _ ⟨rfl, rfl⟩
      go_wp2_with fail
      refine (hW _).mono ?_
      rintro _ _ ⟨rfl, rfl⟩
      go_wp2_with fail
      refine (hW _).mono ?_
      rintro _ _ ⟨rfl, rfl⟩
      go_wp2_with fail
      refine (hH _).mono ?_
      rintro _ _ ⟨rfl, rfl⟩
      go_wp2_with fail
      refine (hI _ (On.refl _)).mono ?_
      rintro e w1 ⟨a, c, rfl, ho, k1⟩
      have hr := list_rd ho
      clear ho
      go_wp2_with fail
      refine (hO _ _ hr).mono ?_
      rintro _ _ ⟨rfl, rfl⟩
      go_wp2_with fail
      refine (hA _ k1).mono ?_
      rintro e w2 ⟨rfl, k2⟩
      go_wp2
      go_ret
      exact ⟨rfl, k1.trans k2⟩
end Go.Proofs.YtpfhfabhjnmlfaaDoor
