/- SetNexts, walked. -/
import Derived.Test.YtpfhfabhjnmlfaaDoorNextsQ
import Derived.Test.YtpfhfabhjnmlfaaDoorAwake7
namespace Go.Proofs.YtpfhfabhjnmlfaaDoor
open Go.RowKit

set_option maxHeartbeats 4000000 in
set_option maxRecDepth 8000 in
theorem setNexts_walk (s : Nat) (n k : Int) (hs : s < 18446744073709551616) (w : World) (hd : Dt w) :
    Calls Tryd.prog 5 #[.int .u64 s, .int .i64 n, .int .i64 k] w fun e w' => e = .returned (.bool true) ∧ On w w' := by
  have hA := fun W (k : On w W) => awake7_is W (hd.on k)
  have hNx := fun (z : Nat) (hz : z < 18446744073709551616) W (k : On w W) => next_is z hz W (hd.on k)
  have hN0 := fun W (k : On w W) => next_is s hs W (hd.on k)
  obtain ⟨p, hp, hpe⟩ := low8 n
  obtain ⟨q, hq, hqe⟩ := low8 k
  obtain ⟨N, hN11, hNe⟩ : ∃ N : Nat, N < 11 ∧ (p : Int) % 11 = (N : Int) := ⟨p % 11, by omega, by omega⟩
  obtain ⟨K, hKN, hKe⟩ : ∃ K : Nat, K ≤ N ∧ (q : Int) % ((N : Int) + 1) = (K : Int) := ⟨q % (N + 1), by have := Nat.mod_lt q (show 0 < N + 1 by omega); omega, by rw [Int.natCast_emod]; rfl⟩
  have hU := fun W => upto_is K W
  rw [upto_mid K (by omega)] at hU
  obtain ⟨hRUN, hwl⟩ := runs_all N hN11 K (by omega) hKN
  have HRUN : Hid (runC 254 N (wantN N K) (2 ^ K - 1) 0 = wantN N K) := hRUN
  have HWL : Hid (∀ i, i ≤ K → wantN N i ≤ 252) := fun i hi => want_le N hN11 i (by omega) (by omega)
  have hul : 2 ^ K - 1 < 18446744073709551616 := by
    have : 2 ^ K ≤ 2 ^ 10 := Nat.pow_le_pow_right (by decide) (by omega)
    omega
  clear hRUN
  obtain ⟨y, hy⟩ : ∃ y, y = nextN s := ⟨_, rfl⟩
  rw [← hy] at hN0
  by_cases hy0 : y = 0
  · subst hy0
    clear hy
    go_enter Tryd.func5, Tryd.ntmps5
    go_wp2_with fail
    refine (hN0 _ (On.refl _)).mono ?_
    rintro _ w0 ⟨rfl, hw0⟩
    subst w0
    go_wp2
    simp only [hNe, hKe]
    clear hN0 hp hq hpe hqe hNe hKe
    go_loopg [10, 11] K (fun gg s10 s11 wr => ∃ i : Nat, i ≤ K ∧ gg = K - i ∧ s11 = .int .i64 i ∧ s10 = .int .i64 (wantN N i) ∧ Hid (On w wr))
    case atStart => exact ⟨0, Nat.zero_le _, rfl, rfl, rfl, On.refl _⟩
    case round =>
      obtain ⟨i, hi, hk, rfl, rfl, HO⟩ := hrel
      have hwi := HWL.out i hi
      rcases Nat.lt_or_ge i K with hlt | hge
      · have hw2 := HWL.out (i + 1) hlt
        obtain ⟨M, hM, hM2, hMd⟩ : ∃ M : Nat, (wantN N i : Int) * ((N : Int) - (i : Int)) = (M : Int) ∧ M ≤ 2520 ∧ (M : Int) / ((i : Int) + 1) = (wantN N (i + 1) : Int) := by
          refine ⟨wantN N i * (N - i), ?_, ?_, ?_⟩
          · rw [Int.natCast_mul, Int.ofNat_sub (by omega)]
          · exact Nat.le_trans (Nat.mul_le_mul hwi (show N - i ≤ 10 by omega)) (by decide)
          · rw [show wantN N (i + 1) = wantN N i * (N - i) / (i + 1) from rfl, Int.natCast_ediv]; rfl
        generalize wantN N i = wi at *
        obtain ⟨wj, hwj⟩ : ∃ wj, wj = wantN N (i + 1) := ⟨_, rfl⟩
        rw [← hwj] at hw2 hMd
        have HWJ : Hid (wj = wantN N (i + 1)) := hwj
        clear hwj
        go_wp2
        go_roundg (K - (i + 1))
        case measure => omega
        case rel => exact ⟨i + 1, hlt, rfl, by congr 1, by rw [HWJ.out], HO⟩
      · have hWe : wantN N i = wantN N K := by rw [show i = K by omega]
        rw [hWe]
        have hig : decide (i < K) = false := by simp; omega
        have hig2 : ¬ i < K := by omega
        obtain ⟨Z, hZ⟩ : ∃ Z, Z = 2 ^ K - 1 := ⟨_, rfl⟩
        obtain ⟨WN, hWN⟩ : ∃ WN, WN = wantN N K := ⟨_, rfl⟩
        rw [← hZ] at hU hul HRUN
        rw [← hWN] at HRUN hwl ⊢
        obtain ⟨T, hT1, hT2, HT⟩ : ∃ T : Nat, IntKind.u64.wrap (2 ^ N) = (T : Int) ∧ T < 2000 ∧ Hid (T = 2 ^ N) := by
          have hb := bit_val (N : Int) (by omega) (by omega)
          rw [Int.toNat_natCast] at hb
          have hbi : bitI (N : Int) = 2 ^ N := by unfold bitI; rw [if_pos (by omega), Int.toNat_natCast]
          rw [hbi] at hb
          have : 2 ^ N ≤ 2 ^ 10 := Nat.pow_le_pow_right (by decide) (by omega)
          exact ⟨2 ^ N, hb, by omega, rfl⟩
        clear hWe hWN hZ HWL hwi hge
        go_wp2_with fail
        refine (hU _).mono ?_
        rintro _ w2 ⟨rfl, hw2⟩
        subst w2
        go_wp2
        go_loopg [12, 13] 254 (fun gg s12 s13 wq => ∃ c z : Nat, c ≤ 253 ∧ gg = 254 - c ∧ s12 = .int .i64 c ∧ s13 = .int .u64 z ∧ z < 18446744073709551616 ∧ Hid (On w wq) ∧ Hid (runC (254 - c) N WN z c = WN))
        case atStart => exact ⟨0, Z, by omega, rfl, rfl, rfl, hul, HO, HRUN⟩
        case round =>
          clear HRUN
          obtain ⟨c, z, hc, hk2, rfl, rfl, hz, HQ, HR⟩ := hrel
          obtain ⟨f, hf⟩ : ∃ f, 254 - c = f + 1 := ⟨253 - c, by omega⟩
          by_cases hin : z < T ∧ c ≤ WN
          · obtain ⟨hz1, hc1⟩ := hin
            have hnz := hNx z hz
            have hnl := next_lt z hz
            have HR2 : Hid ((if nextN z = 0 then c + 1 else runC f N WN (nextN z) (c + 1)) = WN) := by
              have := HR.out
              rw [hf, runC, if_pos ⟨by rw [← HT.out]; exact hz1, hc1⟩] at this
              exact this
            have hff : f = 254 - (c + 1) := by omega
            by_cases hn0 : nextN z = 0
            · rw [hn0] at hnz
              obtain rfl : WN = c + 1 := by have := HR2.out; rw [if_pos hn0] at this; exact this.symm
              clear hf hff hn0 HR HR2 hnl
              go_wp2_with fail
              refine (hnz _ HQ.out).mono ?_
              rintro _ w3 ⟨rfl, hw3⟩
              subst w3
              go_wp2_with fail
              refine (hA _ HQ.out).mono ?_
              rintro _ w4 ⟨rfl, k4⟩
              go_wp2
              go_ret
              exact ⟨rfl, HQ.out.trans k4⟩
            · have HR3 : Hid (runC (254 - (c + 1)) N WN (nextN z) (c + 1) = WN) := by
                have := HR2.out
                rw [if_neg hn0, hff] at this
                exact this
              generalize nextN z = z2 at *
              have hz0 : ((z2 : Int) == 0) = false := by simpa using (by omega : ¬ (z2 : Int) = 0)
              clear hf hff hn0 HR HR2
              go_wp2_with fail
              refine (hnz _ HQ.out).mono ?_
              rintro _ w3 ⟨rfl, hw3⟩
              subst w3
              go_wp2
              go_roundg (254 - (c + 1))
              case measure => omega
              case rel => exact ⟨c + 1, z2, by omega, rfl, by congr 1, rfl, hnl, HQ, HR3⟩
          · obtain rfl : WN = c := by
              have := HR.out
              rw [hf, runC, if_neg (fun h => hin ⟨by rw [HT.out]; exact h.1, h.2⟩)] at this
              exact this.symm
            have hz1 : ¬ z < T := fun h => hin ⟨h, Nat.le_refl _⟩
            have hz2 : decide (z < T) = false := decide_eq_false hz1
            clear hf HR hin
            go_wp2_with fail
            refine (hA _ HQ.out).mono ?_
            rintro _ w4 ⟨rfl, k4⟩
            go_wp2
            go_ret
            exact ⟨rfl, HQ.out.trans k4⟩
  · obtain ⟨h1, h2, h3, h4⟩ := next_spec s hs (by rw [← hy]; exact hy0)
    rw [← hy] at h1 h2 h3 h4
    have hLy := fun W => len_is y h2 W
    have hLx := fun W => len_is s hs W
    rw [h3] at hLy
    have HB : Hid (∀ z, s < z → z < y → (((cnt64 z : Nat) : Int) == ((cnt64 s : Nat) : Int)) = false) := fun z a b => by
      rw [beq_eq_false_iff_ne]
      have := h4 z a b
      omega
    have hyz : ((y : Int) == 0) = false := by simpa using (by omega : ¬ (y : Int) = 0)
    have hyb : ((y : Int) != 0) = true := by rw [bne, hyz]; rfl
    have hle : ¬ y ≤ s := by omega
    clear hy hy0 h3 h4
    obtain ⟨C, hC⟩ : ∃ C, C = cnt64 s := ⟨_, rfl⟩
    rw [← hC] at hLy hLx HB
    clear hC
    obtain ⟨D, hD, hD2, HD⟩ : ∃ D : Nat, (y : Int) - (s : Int) = (D : Int) ∧ D < 18446744073709551616 ∧ Hid (y = s + D) := ⟨y - s, by omega, by omega, by show y = _; omega⟩
    by_cases hD5 : D < 5000
    · have hDi : ((D : Int) < 5000) := by omega
      go_enter Tryd.func5, Tryd.ntmps5
      go_wp2_with fail
      refine (hN0 _ (On.refl _)).mono ?_
      rintro _ w0 ⟨rfl, hw0⟩
      subst w0
      go_wp2_with fail
      refine (hLy _).mono ?_
      rintro _ w0 ⟨rfl, hw0⟩
      subst w0
      go_wp2_with fail
      refine (hLx _).mono ?_
      rintro _ w0 ⟨rfl, hw0⟩
      subst w0
      go_wp2
      go_loopg [9] D (fun gg s9 wz => ∃ z : Nat, s < z ∧ z ≤ y ∧ gg = y + 1 - z ∧ s9 = .int .u64 z ∧ wz = w)
      case atStart => exact ⟨s + 1, by omega, by omega, by have := HD.out; omega, by congr 1, rfl⟩
      case round =>
        obtain ⟨z, hz1, hz2, hkz, rfl, hwz⟩ := hrel
        subst wr
        rcases Nat.lt_or_ge z y with hlt | hge
        · have hLz := fun W => len_is z (by omega) W
          have hne := HB.out z hz1 hlt
          have hcz := cnt_le z
          generalize cnt64 z = cz at *
          go_wp2_with fail
          refine (hLz _).mono ?_
          rintro _ w0 ⟨rfl, hw0⟩
          subst w0
          go_wp2_with fail
          refine (hLx _).mono ?_
          rintro _ w0 ⟨rfl, hw0⟩
          subst w0
          go_wp2
          go_roundg (y + 1 - (z + 1))
          case measure => omega
          case rel => exact ⟨z + 1, by omega, hlt, rfl, by congr 1, rfl⟩
        · have hzy : ¬ z < y := by omega
          have hzd : decide (z < y) = false := decide_eq_false hzy
          go_wp2
          clear hD hD2 HD hDi hyb hyz hle h1 h2 hLy hLx HB hz1 hz2 hzy hzd hkz hge hD5
          simp only [hNe, hKe]
          clear hN0 hp hq hpe hqe hNe hKe
          go_loopg [10, 11] K (fun gg s10 s11 wr => ∃ i : Nat, i ≤ K ∧ gg = K - i ∧ s11 = .int .i64 i ∧ s10 = .int .i64 (wantN N i) ∧ Hid (On w wr))
          case atStart => exact ⟨0, Nat.zero_le _, rfl, rfl, rfl, On.refl _⟩
          case round =>
            obtain ⟨i, hi, hk, rfl, rfl, HO⟩ := hrel
            have hwi := HWL.out i hi
            rcases Nat.lt_or_ge i K with hlt | hge
            · have hw2 := HWL.out (i + 1) hlt
              obtain ⟨M, hM, hM2, hMd⟩ : ∃ M : Nat, (wantN N i : Int) * ((N : Int) - (i : Int)) = (M : Int) ∧ M ≤ 2520 ∧ (M : Int) / ((i : Int) + 1) = (wantN N (i + 1) : Int) := by
                refine ⟨wantN N i * (N - i), ?_, ?_, ?_⟩
                · rw [Int.natCast_mul, Int.ofNat_sub (by omega)]
                · exact Nat.le_trans (Nat.mul_le_mul hwi (show N - i ≤ 10 by omega)) (by decide)
                · rw [show wantN N (i + 1) = wantN N i * (N - i) / (i + 1) from rfl, Int.natCast_ediv]; rfl
              generalize wantN N i = wi at *
              obtain ⟨wj, hwj⟩ : ∃ wj, wj = wantN N (i + 1) := ⟨_, rfl⟩
              rw [← hwj] at hw2 hMd
              have HWJ : Hid (wj = wantN N (i + 1)) := hwj
              clear hwj
              go_wp2
              go_roundg (K - (i + 1))
              case measure => omega
              case rel => exact ⟨i + 1, hlt, rfl, by congr 1, by rw [HWJ.out], HO⟩
            · have hWe : wantN N i = wantN N K := by rw [show i = K by omega]
              rw [hWe]
              have hig : decide (i < K) = false := by simp; omega
              have hig2 : ¬ i < K := by omega
              obtain ⟨Z, hZ⟩ : ∃ Z, Z = 2 ^ K - 1 := ⟨_, rfl⟩
              obtain ⟨WN, hWN⟩ : ∃ WN, WN = wantN N K := ⟨_, rfl⟩
              rw [← hZ] at hU hul HRUN
              rw [← hWN] at HRUN hwl ⊢
              obtain ⟨T, hT1, hT2, HT⟩ : ∃ T : Nat, IntKind.u64.wrap (2 ^ N) = (T : Int) ∧ T < 2000 ∧ Hid (T = 2 ^ N) := by
                have hb := bit_val (N : Int) (by omega) (by omega)
                rw [Int.toNat_natCast] at hb
                have hbi : bitI (N : Int) = 2 ^ N := by unfold bitI; rw [if_pos (by omega), Int.toNat_natCast]
                rw [hbi] at hb
                have : 2 ^ N ≤ 2 ^ 10 := Nat.pow_le_pow_right (by decide) (by omega)
                exact ⟨2 ^ N, hb, by omega, rfl⟩
              clear hWe hWN hZ HWL hwi hge
              go_wp2_with fail
              refine (hU _).mono ?_
              rintro _ w2 ⟨rfl, hw2⟩
              subst w2
              go_wp2
              go_loopg [12, 13] 254 (fun gg s12 s13 wq => ∃ c z : Nat, c ≤ 253 ∧ gg = 254 - c ∧ s12 = .int .i64 c ∧ s13 = .int .u64 z ∧ z < 18446744073709551616 ∧ Hid (On w wq) ∧ Hid (runC (254 - c) N WN z c = WN))
              case atStart => exact ⟨0, Z, by omega, rfl, rfl, rfl, hul, HO, HRUN⟩
              case round =>
                clear HRUN
                obtain ⟨c, z, hc, hk2, rfl, rfl, hz, HQ, HR⟩ := hrel
                obtain ⟨f, hf⟩ : ∃ f, 254 - c = f + 1 := ⟨253 - c, by omega⟩
                by_cases hin : z < T ∧ c ≤ WN
                · obtain ⟨hz1, hc1⟩ := hin
                  have hnz := hNx z hz
                  have hnl := next_lt z hz
                  have HR2 : Hid ((if nextN z = 0 then c + 1 else runC f N WN (nextN z) (c + 1)) = WN) := by
                    have := HR.out
                    rw [hf, runC, if_pos ⟨by rw [← HT.out]; exact hz1, hc1⟩] at this
                    exact this
                  have hff : f = 254 - (c + 1) := by omega
                  by_cases hn0 : nextN z = 0
                  · rw [hn0] at hnz
                    obtain rfl : WN = c + 1 := by have := HR2.out; rw [if_pos hn0] at this; exact this.symm
                    clear hf hff hn0 HR HR2 hnl
                    go_wp2_with fail
                    refine (hnz _ HQ.out).mono ?_
                    rintro _ w3 ⟨rfl, hw3⟩
                    subst w3
                    go_wp2_with fail
                    refine (hA _ HQ.out).mono ?_
                    rintro _ w4 ⟨rfl, k4⟩
                    go_wp2
                    go_ret
                    exact ⟨rfl, HQ.out.trans k4⟩
                  · have HR3 : Hid (runC (254 - (c + 1)) N WN (nextN z) (c + 1) = WN) := by
                      have := HR2.out
                      rw [if_neg hn0, hff] at this
                      exact this
                    generalize nextN z = z2 at *
                    have hz0 : ((z2 : Int) == 0) = false := by simpa using (by omega : ¬ (z2 : Int) = 0)
                    clear hf hff hn0 HR HR2
                    go_wp2_with fail
                    refine (hnz _ HQ.out).mono ?_
                    rintro _ w3 ⟨rfl, hw3⟩
                    subst w3
                    go_wp2
                    go_roundg (254 - (c + 1))
                    case measure => omega
                    case rel => exact ⟨c + 1, z2, by omega, rfl, by congr 1, rfl, hnl, HQ, HR3⟩
                · obtain rfl : WN = c := by
                    have := HR.out
                    rw [hf, runC, if_neg (fun h => hin ⟨by rw [HT.out]; exact h.1, h.2⟩)] at this
                    exact this.symm
                  have hz1 : ¬ z < T := fun h => hin ⟨h, Nat.le_refl _⟩
                  have hz2 : decide (z < T) = false := decide_eq_false hz1
                  clear hf HR hin
                  go_wp2_with fail
                  refine (hA _ HQ.out).mono ?_
                  rintro _ w4 ⟨rfl, k4⟩
                  go_wp2
                  go_ret
                  exact ⟨rfl, HQ.out.trans k4⟩
    · have hDi : decide ((D : Int) < 5000) = false := by simp; omega
      clear hD5
      go_enter Tryd.func5, Tryd.ntmps5
      go_wp2_with fail
      refine (hN0 _ (On.refl _)).mono ?_
      rintro _ w0 ⟨rfl, hw0⟩
      subst w0
      go_wp2_with fail
      refine (hLy _).mono ?_
      rintro _ w0 ⟨rfl, hw0⟩
      subst w0
      go_wp2_with fail
      refine (hLx _).mono ?_
      rintro _ w0 ⟨rfl, hw0⟩
      subst w0
      go_wp2
      clear hD hD2 HD hDi hyb hyz hle h1 h2 hLy hLx HB
      simp only [hNe, hKe]
      clear hN0 hp hq hpe hqe hNe hKe
      go_loopg [10, 11] K (fun gg s10 s11 wr => ∃ i : Nat, i ≤ K ∧ gg = K - i ∧ s11 = .int .i64 i ∧ s10 = .int .i64 (wantN N i) ∧ Hid (On w wr))
      case atStart => exact ⟨0, Nat.zero_le _, rfl, rfl, rfl, On.refl _⟩
      case round =>
        obtain ⟨i, hi, hk, rfl, rfl, HO⟩ := hrel
        have hwi := HWL.out i hi
        rcases Nat.lt_or_ge i K with hlt | hge
        · have hw2 := HWL.out (i + 1) hlt
          obtain ⟨M, hM, hM2, hMd⟩ : ∃ M : Nat, (wantN N i : Int) * ((N : Int) - (i : Int)) = (M : Int) ∧ M ≤ 2520 ∧ (M : Int) / ((i : Int) + 1) = (wantN N (i + 1) : Int) := by
            refine ⟨wantN N i * (N - i), ?_, ?_, ?_⟩
            · rw [Int.natCast_mul, Int.ofNat_sub (by omega)]
            · exact Nat.le_trans (Nat.mul_le_mul hwi (show N - i ≤ 10 by omega)) (by decide)
            · rw [show wantN N (i + 1) = wantN N i * (N - i) / (i + 1) from rfl, Int.natCast_ediv]; rfl
          generalize wantN N i = wi at *
          obtain ⟨wj, hwj⟩ : ∃ wj, wj = wantN N (i + 1) := ⟨_, rfl⟩
          rw [← hwj] at hw2 hMd
          have HWJ : Hid (wj = wantN N (i + 1)) := hwj
          clear hwj
          go_wp2
          go_roundg (K - (i + 1))
          case measure => omega
          case rel => exact ⟨i + 1, hlt, rfl, by congr 1, by rw [HWJ.out], HO⟩
        · have hWe : wantN N i = wantN N K := by rw [show i = K by omega]
          rw [hWe]
          have hig : decide (i < K) = false := by simp; omega
          have hig2 : ¬ i < K := by omega
          obtain ⟨Z, hZ⟩ : ∃ Z, Z = 2 ^ K - 1 := ⟨_, rfl⟩
          obtain ⟨WN, hWN⟩ : ∃ WN, WN = wantN N K := ⟨_, rfl⟩
          rw [← hZ] at hU hul HRUN
          rw [← hWN] at HRUN hwl ⊢
          obtain ⟨T, hT1, hT2, HT⟩ : ∃ T : Nat, IntKind.u64.wrap (2 ^ N) = (T : Int) ∧ T < 2000 ∧ Hid (T = 2 ^ N) := by
            have hb := bit_val (N : Int) (by omega) (by omega)
            rw [Int.toNat_natCast] at hb
            have hbi : bitI (N : Int) = 2 ^ N := by unfold bitI; rw [if_pos (by omega), Int.toNat_natCast]
            rw [hbi] at hb
            have : 2 ^ N ≤ 2 ^ 10 := Nat.pow_le_pow_right (by decide) (by omega)
            exact ⟨2 ^ N, hb, by omega, rfl⟩
          clear hWe hWN hZ HWL hwi hge
          go_wp2_with fail
          refine (hU _).mono ?_
          rintro _ w2 ⟨rfl, hw2⟩
          subst w2
          go_wp2
          go_loopg [12, 13] 254 (fun gg s12 s13 wq => ∃ c z : Nat, c ≤ 253 ∧ gg = 254 - c ∧ s12 = .int .i64 c ∧ s13 = .int .u64 z ∧ z < 18446744073709551616 ∧ Hid (On w wq) ∧ Hid (runC (254 - c) N WN z c = WN))
          case atStart => exact ⟨0, Z, by omega, rfl, rfl, rfl, hul, HO, HRUN⟩
          case round =>
            clear HRUN
            obtain ⟨c, z, hc, hk2, rfl, rfl, hz, HQ, HR⟩ := hrel
            obtain ⟨f, hf⟩ : ∃ f, 254 - c = f + 1 := ⟨253 - c, by omega⟩
            by_cases hin : z < T ∧ c ≤ WN
            · obtain ⟨hz1, hc1⟩ := hin
              have hnz := hNx z hz
              have hnl := next_lt z hz
              have HR2 : Hid ((if nextN z = 0 then c + 1 else runC f N WN (nextN z) (c + 1)) = WN) := by
                have := HR.out
                rw [hf, runC, if_pos ⟨by rw [← HT.out]; exact hz1, hc1⟩] at this
                exact this
              have hff : f = 254 - (c + 1) := by omega
              by_cases hn0 : nextN z = 0
              · rw [hn0] at hnz
                obtain rfl : WN = c + 1 := by have := HR2.out; rw [if_pos hn0] at this; exact this.symm
                clear hf hff hn0 HR HR2 hnl
                go_wp2_with fail
                refine (hnz _ HQ.out).mono ?_
                rintro _ w3 ⟨rfl, hw3⟩
                subst w3
                go_wp2_with fail
                refine (hA _ HQ.out).mono ?_
                rintro _ w4 ⟨rfl, k4⟩
                go_wp2
                go_ret
                exact ⟨rfl, HQ.out.trans k4⟩
              · have HR3 : Hid (runC (254 - (c + 1)) N WN (nextN z) (c + 1) = WN) := by
                  have := HR2.out
                  rw [if_neg hn0, hff] at this
                  exact this
                generalize nextN z = z2 at *
                have hz0 : ((z2 : Int) == 0) = false := by simpa using (by omega : ¬ (z2 : Int) = 0)
                clear hf hff hn0 HR HR2
                go_wp2_with fail
                refine (hnz _ HQ.out).mono ?_
                rintro _ w3 ⟨rfl, hw3⟩
                subst w3
                go_wp2
                go_roundg (254 - (c + 1))
                case measure => omega
                case rel => exact ⟨c + 1, z2, by omega, rfl, by congr 1, rfl, hnl, HQ, HR3⟩
            · obtain rfl : WN = c := by
                have := HR.out
                rw [hf, runC, if_neg (fun h => hin ⟨by rw [HT.out]; exact h.1, h.2⟩)] at this
                exact this.symm
              have hz1 : ¬ z < T := fun h => hin ⟨h, Nat.le_refl _⟩
              have hz2 : decide (z < T) = false := decide_eq_false hz1
              clear hf HR hin
              go_wp2_with fail
              refine (hA _ HQ.out).mono ?_
              rintro _ w4 ⟨rfl, k4⟩
              go_wp2
              go_ret
              exact ⟨rfl, HQ.out.trans k4⟩
end Go.Proofs.YtpfhfabhjnmlfaaDoor
