/- The document's Check of a test that is not big at the first look. -/
import Derived.Test.YtmnpcbcnjnklnaaGreatDoorWlRChkA
namespace Go.Proofs.YtmnpcbcnjnklnaaGreatDoor.Wl
open Go.RowKit
set_option linter.unusedSimpArgs false
set_option linter.unusedVariables false

set_option maxHeartbeats 32000000 in
set_option maxRecDepth 8000 in
theorem rchk_rest (t : TestT) (v : Value) (w : World) (h : TestRd w v t) (htest : testOk t = true) (p1 : ¬ t.thr.length < 1) (p2 : ¬ 4 < t.thr.length) (p3 : ¬ 20 < t.name.size) (p4 : ¬ 8 < t.cond.any.length) (p5 : ¬ 4 < rlen t) :
    Calls Tryz.prog 11 #[v] w fun e w' => e = .returned (.int .i64 (if bigR t.thr t.cond.any then 8 else if twF [] t.ini then 9 else if t.thr.any skipBad || t.cond.any.any (fun L => L.any (farAtom t.thr.length)) then 10 else 0)) ∧ On w w' := by
  obtain ⟨G, hG⟩ : ∃ G : Int, G = (if bigR t.thr t.cond.any then 8 else if twF [] t.ini then 9 else if t.thr.any skipBad || t.cond.any.any (fun L => L.any (farAtom t.thr.length)) then 10 else 0) := ⟨_, rfl⟩
  rw [← hG]
  have HG : Hid (G = (if bigR t.thr t.cond.any then 8 else if twF [] t.ini then 9 else if t.thr.any skipBad || t.cond.any.any (fun L => L.any (farAtom t.thr.length)) then 10 else 0)) := hG
  clear hG
  obtain ⟨a1, c1, a2, c2, a3, c3, rfl, hnm, r1, r2, r3⟩ := h.ex
  have hTO := fun (W : World) (k : On w W) => rtestOk_is t _ W (h.on k)
  have hLO := fun (W : World) (k : On w W) => rlocs_is t _ W (h.on k)
  rw [htest] at hTO
  clear h htest
  obtain ⟨_, _, _, _, hm1⟩ := r1.slice
  obtain ⟨_, _, _, _, hm2⟩ := r2.slice
  obtain ⟨_, _, _, _, hm3⟩ := r3.slice
  have R1 : Hid (Rd iniC 2 w (.slice a1 t.ini.length c1) t.ini) := r1
  have R2 : Hid (Rd2 insC 9 w (.slice a2 t.thr.length c2) t.thr) := r2
  have R3 : Hid (Rd2 atomC 4 w (.slice a3 t.cond.any.length c3) t.cond.any) := r3
  clear r1 r2 r3
  have hrl : rlen t = (outTo (markI (allLs t) (fun _ => false)) 123).length := rfl
  rw [← hrl] at hLO
  clear hrl
  generalize (outTo (markI (allLs t) (fun _ => false)) 123).map byteV = rv at *
  generalize rlen t = rl at *
  generalize t.name = nm at *
  generalize t.cond.k = kk at *
  generalize t.ini = INI at *
  generalize t.thr = THR at *
  generalize t.cond.any = ANY at *
  have bt : ∀ cs T W, On (w.alloc (.cells cs T)) W → Bk W w.heap.size cs := fun cs T W k => (Bk.new w cs T).on k
  obtain ⟨BB, hBB⟩ : ∃ b, b = bigR THR ANY := ⟨_, rfl⟩
  rw [← hBB] at HG
  have HB : Hid (BB = (false || ((THR.drop 0).any (fun L => decide (10 < L.length)) || (ANY.any (fun L => decide (8 < L.length)) || decide (24 < sumM 0 (THR.drop 0)))))) := by rw [Hid, Bool.false_or]; exact hBB
  clear hBB
  go_enter Tryz.func11, Tryz.ntmps11
  go_wp2_with fail
  go_at_call 33
  refine (hTO _ ((On.refl w).alloc _)).mono ?_
  rintro e w2 ⟨rfl, k2⟩
  have TB := bt _ _ _ k2
  have HO : Hid (On w w2) := ((On.refl w).alloc _).trans k2
  have t0 := TB.at (i := 0) rfl
  have t1 := TB.at (i := 1) rfl
  have t2 := TB.at (i := 2) rfl
  have t3 := TB.at (i := 3) rfl
  have t4 := TB.at (i := 4) rfl
  have tl := TB.lt
  clear bt k2 hTO
  go_wp2_with fail
  go_at_call 34
  refine (hLO _ HO.out).mono ?_
  rintro e w3 ⟨al, cl, rfl, _, k3⟩
  clear t0 t1 t2 t3 t4 tl
  replace TB := TB.on k3
  replace HO : Hid (On w w3) := HO.out.trans k3
  have t2 := TB.at (i := 2) rfl
  have t4 := TB.at (i := 4) rfl
  have tl := TB.lt
  clear hLO k3
  go_wp2
  clear t2 t4 tl
  go_loopg [3, 4, 5] THR.length (fun gg s3 s4 s5 wq => ∃ (n s : Nat) (b : Bool), n ≤ THR.length ∧ gg = THR.length - n ∧ s5 = .int .i64 n ∧ s3 = .int .i64 s ∧ s4 = .bool b ∧ s ≤ 100 * n ∧ Hid (On w wq) ∧ Bk wq w.heap.size #[.string nm, .slice a1 INI.length c1, .slice a2 THR.length c2, .int .i64 kk, .slice a3 ANY.length c3] ∧ Hid (BB = (b || ((THR.drop n).any (fun L => decide (10 < L.length)) || (ANY.any (fun L => decide (8 < L.length)) || decide (24 < sumM s (THR.drop n)))))))
  case atStart => exact ⟨0, 0, false, Nat.zero_le _, rfl, rfl, rfl, by first | rfl | (refine congrArg Value.bool ?_; simp; omega), Nat.le_refl _, HO, TB, HB⟩
  case round =>
    clear HO TB HB
    obtain ⟨n, s, b, hn, hk, rfl, rfl, rfl, hs, HO, TB, HB⟩ := hrel
    have t2 := TB.at (i := 2) rfl
    have t4 := TB.at (i := 4) rfl
    have tl := TB.lt
    rcases Nat.lt_or_ge n THR.length with hlt | hge
    · obtain ⟨x, hx⟩ : ∃ x, THR[n]? = some x := ⟨_, List.getElem?_eq_getElem hlt⟩
      obtain ⟨g, off, rfl, hg, ax, cx, v0, hxm, _⟩ := (R2.out.on HO.out).row hx
      have hd : Hid (THR.drop n = x :: THR.drop (n + 1)) := drop_at hx
      clear hx
      have HJ : ∀ (b' : Bool) (m : Nat), b' = (b || decide (10 < x.length)) → m = min x.length 100 → Hid (BB = (b' || ((THR.drop (n + 1)).any (fun L => decide (10 < L.length)) || (ANY.any (fun L => decide (8 < L.length)) || decide (24 < sumM (s + m) (THR.drop (n + 1))))))) := by
        intro b' m e1 e2
        rw [Hid, HB.out, hd.out, e1, e2, List.any_cons]
        unfold sumM
        rw [List.foldl_cons]
        simp only [Bool.or_assoc]
      clear HB hd
      by_cases h10 : 10 < x.length
      · by_cases h100 : x.length ≤ 100
        · have HK := HJ true x.length (by simp [h10]) (by omega)
          clear HJ
          cases b
          all_goals
            go_wp2
            go_roundg (THR.length - (n + 1))
            case measure => omega
            case rel => exact ⟨n + 1, s + x.length, true, by omega, rfl, by go_num, by go_num, by first | rfl | (refine congrArg Value.bool ?_; simp; omega), by omega, HO, TB, HK⟩
        · have HK := HJ true 100 (by simp [h10]) (by omega)
          clear HJ
          cases b
          all_goals
            go_wp2
            go_roundg (THR.length - (n + 1))
            case measure => omega
            case rel => exact ⟨n + 1, s + 100, true, by omega, rfl, by go_num, by go_num, by first | rfl | (refine congrArg Value.bool ?_; simp; omega), by omega, HO, TB, HK⟩
      · have HK := HJ b x.length (by simp [h10]) (by omega)
        clear HJ
        cases b
        · go_wp2
          go_roundg (THR.length - (n + 1))
          case measure => omega
          case rel => exact ⟨n + 1, s + x.length, false, by omega, rfl, by go_num, by go_num, by first | rfl | (refine congrArg Value.bool ?_; simp; omega), by omega, HO, TB, HK⟩
        · go_wp2
          go_roundg (THR.length - (n + 1))
          case measure => omega
          case rel => exact ⟨n + 1, s + x.length, true, by omega, rfl, by go_num, by go_num, by first | rfl | (refine congrArg Value.bool ?_; simp; omega), by omega, HO, TB, HK⟩
    · obtain rfl : n = THR.length := by omega
      have HB2 : Hid (BB = (b || ((ANY.drop 0).any (fun L => decide (8 < L.length)) || decide (24 < s)))) := by
        rw [Hid, HB.out, List.drop_of_length_le hge]; rfl
      clear HB
      go_wp2
      clear t2 t4 tl
      go_loopg [4, 6] ANY.length (fun gg s4 s6 wq => ∃ (n : Nat) (b : Bool), n ≤ ANY.length ∧ gg = ANY.length - n ∧ s6 = .int .i64 n ∧ s4 = .bool b ∧ Hid (On w wq) ∧ Bk wq w.heap.size #[.string nm, .slice a1 INI.length c1, .slice a2 THR.length c2, .int .i64 kk, .slice a3 ANY.length c3] ∧ Hid (BB = (b || ((ANY.drop n).any (fun L => decide (8 < L.length)) || decide (24 < s)))))
      case atStart => exact ⟨0, b, Nat.zero_le _, rfl, rfl, rfl, HO, TB, HB2⟩
      case round =>
        clear HO TB HB2 hge hn hk
        obtain ⟨n, b, hn, hk, rfl, rfl, HO, TB, HB⟩ := hrel
        have t1 := TB.at (i := 1) rfl
        have t4 := TB.at (i := 4) rfl
        have tl := TB.lt
        rcases Nat.lt_or_ge n ANY.length with hlt | hge
        · obtain ⟨x, hx⟩ : ∃ x, ANY[n]? = some x := ⟨_, List.getElem?_eq_getElem hlt⟩
          obtain ⟨g, off, rfl, hg, ax, cx, v0, hxm, _⟩ := (R3.out.on HO.out).row hx
          have HJ : ∀ (b' : Bool), b' = (b || decide (8 < x.length)) → Hid (BB = (b' || ((ANY.drop (n + 1)).any (fun L => decide (8 < L.length)) || decide (24 < s)))) := by
            intro b' e1
            rw [Hid, HB.out, drop_at hx, e1, List.any_cons]
            simp only [Bool.or_assoc]
          clear HB hx
          by_cases h10 : 8 < x.length
          · have HK := HJ true (by simp [h10])
            clear HJ
            cases b
            all_goals
              go_wp2
              go_roundg (ANY.length - (n + 1))
              case measure => omega
              case rel => exact ⟨n + 1, true, by omega, rfl, by go_num, by first | rfl | (refine congrArg Value.bool ?_; simp; omega), HO, TB, HK⟩
          · have HK := HJ b (by simp [h10])
            clear HJ
            cases b
            · go_wp2
              go_roundg (ANY.length - (n + 1))
              case measure => omega
              case rel => exact ⟨n + 1, false, by omega, rfl, by go_num, by first | rfl | (refine congrArg Value.bool ?_; simp; omega), HO, TB, HK⟩
            · go_wp2
              go_roundg (ANY.length - (n + 1))
              case measure => omega
              case rel => exact ⟨n + 1, true, by omega, rfl, by go_num, by first | rfl | (refine congrArg Value.bool ?_; simp; omega), HO, TB, HK⟩
        · obtain rfl : n = ANY.length := by omega
          have HB2 : Hid (BB = (b || decide (24 < s))) := by
            rw [Hid, HB.out, List.drop_of_length_le hge]; rfl
          clear HB
          cases b with
          | true =>
            obtain rfl : G = 8 := by rw [HG.out, HB2.out]; rfl
            go_wp2
            go_ret
            exact ⟨rfl, HO.out⟩
          | false =>
            by_cases h24 : 24 < s
            · obtain rfl : G = 8 := by rw [HG.out, HB2.out, decide_eq_true h24]; rfl
              clear HB2
              go_wp2
              go_ret
              exact ⟨rfl, HO.out⟩
            have HG2 : Hid (G = if twF ((INI.take 0).map InitT.l) (INI.drop 0) then 9 else if (THR.drop 0).any skipBad || ANY.any (fun L => L.any (farAtom THR.length)) then 10 else 0) := by
              rw [Hid, HG.out, HB2.out, decide_eq_false h24]; rfl
            clear HG HB2
            go_wp2
            clear t1 t4 tl
            go_loopg [7] INI.length (fun gg s7 wq => ∃ n : Nat, n ≤ INI.length ∧ gg = INI.length - n ∧ s7 = .int .i64 n ∧ Hid (On w wq) ∧ Bk wq w.heap.size #[.string nm, .slice a1 INI.length c1, .slice a2 THR.length c2, .int .i64 kk, .slice a3 ANY.length c3] ∧ Hid (G = if twF ((INI.take n).map InitT.l) (INI.drop n) then 9 else if (THR.drop 0).any skipBad || ANY.any (fun L => L.any (farAtom THR.length)) then 10 else 0))
            case atStart => exact ⟨0, Nat.zero_le _, rfl, rfl, HO, TB, HG2⟩
            case round =>
              clear HO TB HG2 hge hn hk
              obtain ⟨n, hn, hk, rfl, HO, TB, HG⟩ := hrel
              have t1 := TB.at (i := 1) rfl
              have t2 := TB.at (i := 2) rfl
              have tl := TB.lt
              rcases Nat.lt_or_ge n INI.length with hlt | hge
              · obtain ⟨x, hx⟩ : ∃ x, INI[n]? = some x := ⟨_, List.getElem?_eq_getElem hlt⟩
                have HI : Hid (G = if (((INI.take n).map InitT.l).drop 0).any (fun y => y == x.l) || twF ((INI.take (n + 1)).map InitT.l) (INI.drop (n + 1)) then 9 else if (THR.drop 0).any skipBad || ANY.any (fun L => L.any (farAtom THR.length)) then 10 else 0) := by
                  rw [Hid, HG.out, drop_at hx, twF, List.take_add_one, hx, List.drop_zero]
                  simp
                have HX : Hid (INI[n]? = some x) := hx
                clear HG hx
                go_wp2
                clear t1 t2 tl
                go_loopg [8] n (fun gg s8 wq => ∃ m : Nat, m ≤ n ∧ gg = n - m ∧ s8 = .int .i64 m ∧ Hid (On w wq) ∧ Bk wq w.heap.size #[.string nm, .slice a1 INI.length c1, .slice a2 THR.length c2, .int .i64 kk, .slice a3 ANY.length c3] ∧ Hid (G = if (((INI.take n).map InitT.l).drop m).any (fun y => y == x.l) || twF ((INI.take (n + 1)).map InitT.l) (INI.drop (n + 1)) then 9 else if (THR.drop 0).any skipBad || ANY.any (fun L => L.any (farAtom THR.length)) then 10 else 0))
                case atStart => exact ⟨0, Nat.zero_le _, rfl, rfl, HO, TB, HI⟩
                case round =>
                  clear HI HO TB
                  obtain ⟨m, hm, hkm, rfl, HO, TB, HI⟩ := hrel
                  have t1 := TB.at (i := 1) rfl
                  have tl := TB.lt
                  rcases Nat.lt_or_ge m n with hlm | hgm
                  · obtain ⟨y, hy⟩ : ∃ y, INI[m]? = some y := ⟨_, List.getElem?_eq_getElem (by omega)⟩
                    have hy2 : ((INI.take n).map InitT.l)[m]? = some y.l := by rw [List.getElem?_map, List.getElem?_take, if_pos hlm, hy]; rfl
                    have HJ0 : Hid (G = if (y.l == x.l) || ((((INI.take n).map InitT.l).drop (m + 1)).any (fun y => y == x.l) || twF ((INI.take (n + 1)).map InitT.l) (INI.drop (n + 1))) then 9 else if (THR.drop 0).any skipBad || ANY.any (fun L => L.any (farAtom THR.length)) then 10 else 0) := by
                      rw [Hid, HI.out, drop_at hy2, List.any_cons, Bool.or_assoc]
                    obtain ⟨g, off, rfl, hg, hcell⟩ := (R1.out.on HO.out).at HX.out
                    have q0 : wr.cell? ⟨g, off + n * 2, none⟩ = _ := hcell 0 _ rfl
                    obtain ⟨g', off', he, hg', hcell'⟩ := (R1.out.on HO.out).at hy
                    simp only [Option.some.injEq, Addr.mk.injEq, and_true] at he
                    obtain ⟨rfl, rfl⟩ := he
                    have q1 : wr.cell? ⟨g, off + m * 2, none⟩ = _ := hcell' 0 _ rfl
                    clear HI hcell hcell' hy hy2
                    by_cases hq : y.l = x.l
                    · obtain rfl : G = 9 := by rw [HJ0.out, hq]; simp
                      have bq : (x.l == y.l) = true := by simp [hq]
                      clear HJ0
                      go_wp2
                      go_region
                      all_goals (try go_wp2)
                      all_goals go_ret
                      all_goals exact ⟨rfl, HO.out.drew⟩
                    · have bq0 : (y.l == x.l) = false := by simpa using hq
                      have bq : (x.l == y.l) = false := by simpa using (fun h => hq h.symm : ¬ x.l = y.l)
                      have HJ : Hid (G = if (((INI.take n).map InitT.l).drop (m + 1)).any (fun y => y == x.l) || twF ((INI.take (n + 1)).map InitT.l) (INI.drop (n + 1)) then 9 else if (THR.drop 0).any skipBad || ANY.any (fun L => L.any (farAtom THR.length)) then 10 else 0) := by rw [Hid, HJ0.out, bq0, Bool.false_or]
                      clear HJ0 bq0
                      go_wp2
                      go_region
                      go_wp2
                      go_roundg (n - (m + 1))
                      case measure => omega
                      case rel => exact ⟨m + 1, by omega, rfl, by go_num, HO.out.drew, TB.on (On.refl _).drew, HJ⟩
                  · obtain rfl : m = n := by omega
                    have HJ : Hid (G = if twF ((INI.take (m + 1)).map InitT.l) (INI.drop (m + 1)) then 9 else if (THR.drop 0).any skipBad || ANY.any (fun L => L.any (farAtom THR.length)) then 10 else 0) := by
                      rw [Hid, HI.out, List.drop_of_length_le (by simp; omega)]; rfl
                    clear HI
                    go_wp2
                    go_roundg (INI.length - (m + 1))
                    case measure => omega
                    case rel => exact ⟨m + 1, by omega, rfl, by go_num, HO, TB, HJ⟩
              · obtain rfl : n = INI.length := by omega
                have HG2 : Hid (G = if (THR.drop 0).any skipBad || ANY.any (fun L => L.any (farAtom THR.length)) then 10 else 0) := by
                  rw [Hid, HG.out, List.drop_of_length_le hge]; rfl
                clear HG
                have HS : Hid (G = if (THR.drop 0).any skipBad || (ANY.drop 0).any (fun L => L.any (farAtom THR.length)) then 10 else 0) := HG2
                clear HG2
                go_wp2
                clear t1 t2 tl
                go_loopg [9] THR.length (fun gg s9 wq => ∃ n : Nat, n ≤ THR.length ∧ gg = THR.length - n ∧ s9 = .int .i64 n ∧ Hid (On w wq) ∧ Bk wq w.heap.size #[.string nm, .slice a1 INI.length c1, .slice a2 THR.length c2, .int .i64 kk, .slice a3 ANY.length c3] ∧ Hid (G = if (THR.drop n).any skipBad || (ANY.drop 0).any (fun L => L.any (farAtom THR.length)) then 10 else 0))
                case atStart => exact ⟨0, Nat.zero_le _, rfl, rfl, HO, TB, HS⟩
                case round =>
                  clear HO TB HS hge hn hk
                  obtain ⟨n, hn, hk, rfl, HO, TB, HG⟩ := hrel
                  have t2 := TB.at (i := 2) rfl
                  have t4 := TB.at (i := 4) rfl
                  have tl := TB.lt
                  rcases Nat.lt_or_ge n THR.length with hlt | hge
                  · obtain ⟨x, hx⟩ : ∃ x, THR[n]? = some x := ⟨_, List.getElem?_eq_getElem hlt⟩
                    have HI : Hid (G = if skipBad (x.drop 0) || ((THR.drop (n + 1)).any skipBad || (ANY.drop 0).any (fun L => L.any (farAtom THR.length))) then 10 else 0) := by
                      rw [Hid, HG.out, drop_at hx, List.any_cons, Bool.or_assoc]; rfl
                    have HX : Hid (THR[n]? = some x) := hx
                    clear HG hx
                    go_wp2
                    clear t2 t4 tl
                    go_loopg [10] x.length (fun gg s10 wq => ∃ m : Nat, m ≤ x.length ∧ gg = x.length - m ∧ s10 = .int .i64 m ∧ Hid (On w wq) ∧ Bk wq w.heap.size #[.string nm, .slice a1 INI.length c1, .slice a2 THR.length c2, .int .i64 kk, .slice a3 ANY.length c3] ∧ Hid (G = if skipBad (x.drop m) || ((THR.drop (n + 1)).any skipBad || (ANY.drop 0).any (fun L => L.any (farAtom THR.length))) then 10 else 0))
                    case atStart => exact ⟨0, Nat.zero_le _, rfl, rfl, HO, TB, HI⟩
                    case round =>
                      clear HI HO TB
                      obtain ⟨m, hm, hkm, rfl, HO, TB, HI⟩ := hrel
                      have t2 := TB.at (i := 2) rfl
                      have tl := TB.lt
                      obtain ⟨g, off, rfl, hg, ax, cx, v0, hxm, rx⟩ := (R2.out.on HO.out).row HX.out
                      rcases Nat.lt_or_ge m x.length with hlm | hgm
                      · obtain ⟨y, hy⟩ : ∃ y, x[m]? = some y := ⟨_, List.getElem?_eq_getElem hlm⟩
                        obtain ⟨g2, off2, rfl, hg2, hcell⟩ := rx.at hy
                        obtain ⟨k, r, l, ⟨ar, av⟩, o, ⟨br, bv⟩, q⟩ := y
                        have u0 : wr.cell? ⟨g2, off2 + m * 9, none⟩ = _ := hcell 0 _ rfl
                        have u1 : wr.cell? ⟨g2, off2 + m * 9 + 1, none⟩ = _ := hcell 1 _ rfl
                        have u2 : wr.cell? ⟨g2, off2 + m * 9 + 2, none⟩ = _ := hcell 2 _ rfl
                        have u3 : wr.cell? ⟨g2, off2 + m * 9 + 3, none⟩ = _ := hcell 3 _ rfl
                        have u4 : wr.cell? ⟨g2, off2 + m * 9 + 4, none⟩ = _ := hcell 4 _ rfl
                        have u5 : wr.cell? ⟨g2, off2 + m * 9 + 5, none⟩ = _ := hcell 5 _ rfl
                        have u6 : wr.cell? ⟨g2, off2 + m * 9 + 6, none⟩ = _ := hcell 6 _ rfl
                        have u7 : wr.cell? ⟨g2, off2 + m * 9 + 7, none⟩ = _ := hcell 7 _ rfl
                        have u8 : wr.cell? ⟨g2, off2 + m * 9 + 8, none⟩ = _ := hcell 8 _ rfl
                        simp only at u0 u1 u2 u3 u4 u5 u6 u7 u8
                        have HJ0 : Hid (G = if (k == 6 && (q == 0 || decide (((x.length - (m + 1) : Nat) : Int) < q))) || (skipBad (x.drop (m + 1)) || ((THR.drop (n + 1)).any skipBad || (ANY.drop 0).any (fun L => L.any (farAtom THR.length)))) then 10 else 0) := by
                          rw [Hid, HI.out, drop_at hy, skipBad, Bool.or_assoc, List.length_drop]
                        clear HI hcell hy rx
                        by_cases h6 : k = 6
                        · subst h6
                          by_cases h0 : q = 0
                          · subst h0
                            obtain rfl : G = 10 := by rw [HJ0.out]; rfl
                            clear HJ0
                            go_wp2
                            go_region
                            all_goals (try go_wp2)
                            go_ret
                            exact ⟨rfl, HO.out.trans (by repeat' (first | exact On.refl _ | refine On.drew ?_ | refine On.alloc ?_ _ | refine On.setNew ?_ (Nat.le_refl _) _))⟩
                          · have q0 : (q == 0) = false := by simpa using h0
                            by_cases hlq : (x.length : Int) - m ≤ q
                            · obtain rfl : G = 10 := by rw [HJ0.out, q0, decide_eq_true (by omega)]; rfl
                              clear HJ0
                              go_wp2
                              go_region
                              all_goals (try go_wp2)
                              go_ret
                              exact ⟨rfl, HO.out.trans (by repeat' (first | exact On.refl _ | refine On.drew ?_ | refine On.alloc ?_ _ | refine On.setNew ?_ (Nat.le_refl _) _))⟩
                            · have HJ : Hid (G = if skipBad (x.drop (m + 1)) || ((THR.drop (n + 1)).any skipBad || (ANY.drop 0).any (fun L => L.any (farAtom THR.length))) then 10 else 0) := by
                                rw [Hid, HJ0.out, q0, decide_eq_false (by omega)]; rfl
                              clear HJ0
                              go_wp2
                              go_region
                              go_wp2
                              go_roundg (x.length - (m + 1))
                              case measure => omega
                              case rel => exact ⟨m + 1, by omega, rfl, by go_num, HO.out.trans (by repeat' (first | exact On.refl _ | refine On.drew ?_ | refine On.alloc ?_ _ | refine On.setNew ?_ (Nat.le_refl _) _)), TB.on (by repeat' (first | exact On.refl _ | refine On.drew ?_ | refine On.alloc ?_ _ | refine On.setNew ?_ (Nat.le_refl _) _)), HJ⟩
                        · have k6 : (k == 6) = false := by simpa using h6
                          have HJ : Hid (G = if skipBad (x.drop (m + 1)) || ((THR.drop (n + 1)).any skipBad || (ANY.drop 0).any (fun L => L.any (farAtom THR.length))) then 10 else 0) := by
                            rw [Hid, HJ0.out, k6]; rfl
                          clear HJ0
                          go_wp2
                          go_region
                          go_wp2
                          go_roundg (x.length - (m + 1))
                          case measure => omega
                          case rel => exact ⟨m + 1, by omega, rfl, by go_num, HO.out.trans (by repeat' (first | exact On.refl _ | refine On.drew ?_ | refine On.alloc ?_ _ | refine On.setNew ?_ (Nat.le_refl _) _)), TB.on (by repeat' (first | exact On.refl _ | refine On.drew ?_ | refine On.alloc ?_ _ | refine On.setNew ?_ (Nat.le_refl _) _)), HJ⟩
                      · have HJ : Hid (G = if (THR.drop (n + 1)).any skipBad || (ANY.drop 0).any (fun L => L.any (farAtom THR.length)) then 10 else 0) := by
                          rw [Hid, HI.out, List.drop_of_length_le hgm]; rfl
                        clear HI rx
                        go_wp2
                        go_roundg (THR.length - (n + 1))
                        case measure => omega
                        case rel => exact ⟨n + 1, by omega, rfl, by go_num, HO, TB, HJ⟩
                  · obtain rfl : n = THR.length := by omega
                    have HS : Hid (G = if (ANY.drop 0).any (fun L => L.any (farAtom THR.length)) then 10 else 0) := by
                      rw [Hid, HG.out, List.drop_of_length_le hge]; rfl
                    clear HG
                    go_wp2
                    clear t2 t4 tl
                    go_loopg [12] ANY.length (fun gg s12 wq => ∃ n : Nat, n ≤ ANY.length ∧ gg = ANY.length - n ∧ s12 = .int .i64 n ∧ Hid (On w wq) ∧ Bk wq w.heap.size #[.string nm, .slice a1 INI.length c1, .slice a2 THR.length c2, .int .i64 kk, .slice a3 ANY.length c3] ∧ Hid (G = if (ANY.drop n).any (fun L => L.any (farAtom THR.length)) then 10 else 0))
                    case atStart => exact ⟨0, Nat.zero_le _, rfl, rfl, HO, TB, HS⟩
                    case round =>
                      clear HO TB HS hge hn hk
                      obtain ⟨n, hn, hk, rfl, HO, TB, HG⟩ := hrel
                      have t2 := TB.at (i := 2) rfl
                      have t4 := TB.at (i := 4) rfl
                      have tl := TB.lt
                      rcases Nat.lt_or_ge n ANY.length with hlt | hge
                      · obtain ⟨x, hx⟩ : ∃ x, ANY[n]? = some x := ⟨_, List.getElem?_eq_getElem hlt⟩
                        have HI : Hid (G = if (x.drop 0).any (farAtom THR.length) || (ANY.drop (n + 1)).any (fun L => L.any (farAtom THR.length)) then 10 else 0) := by
                          rw [Hid, HG.out, drop_at hx, List.any_cons]; rfl
                        have HX : Hid (ANY[n]? = some x) := hx
                        clear HG hx
                        go_wp2
                        clear t2 t4 tl
                        go_loopg [13] x.length (fun gg s13 wq => ∃ m : Nat, m ≤ x.length ∧ gg = x.length - m ∧ s13 = .int .i64 m ∧ Hid (On w wq) ∧ Bk wq w.heap.size #[.string nm, .slice a1 INI.length c1, .slice a2 THR.length c2, .int .i64 kk, .slice a3 ANY.length c3] ∧ Hid (G = if (x.drop m).any (farAtom THR.length) || (ANY.drop (n + 1)).any (fun L => L.any (farAtom THR.length)) then 10 else 0))
                        case atStart => exact ⟨0, Nat.zero_le _, rfl, rfl, HO, TB, HI⟩
                        case round =>
                          clear HI HO TB
                          obtain ⟨m, hm, hkm, rfl, HO, TB, HI⟩ := hrel
                          have t2 := TB.at (i := 2) rfl
                          have t4 := TB.at (i := 4) rfl
                          have tl := TB.lt
                          obtain ⟨g, off, rfl, hg, ax, cx, v0, hxm, rx⟩ := (R3.out.on HO.out).row HX.out
                          rcases Nat.lt_or_ge m x.length with hlm | hgm
                          · obtain ⟨y, hy⟩ : ∃ y, x[m]? = some y := ⟨_, List.getElem?_eq_getElem hlm⟩
                            obtain ⟨g2, off2, rfl, hg2, hcell⟩ := rx.at hy
                            have u0 : wr.cell? ⟨g2, off2 + m * 4, none⟩ = _ := hcell 0 _ rfl
                            have HJ0 : Hid (G = if decide ((THR.length : Int) ≤ y.t) || ((x.drop (m + 1)).any (farAtom THR.length) || (ANY.drop (n + 1)).any (fun L => L.any (farAtom THR.length))) then 10 else 0) := by
                              rw [Hid, HI.out, drop_at hy, List.any_cons, Bool.or_assoc]; rfl
                            clear HI hcell hy rx
                            by_cases hf : (THR.length : Int) ≤ y.t
                            · obtain rfl : G = 10 := by rw [HJ0.out, decide_eq_true hf]; rfl
                              clear HJ0
                              go_wp2
                              go_region
                              all_goals (try go_wp2)
                              go_ret
                              exact ⟨rfl, HO.out.drew⟩
                            · have HJ : Hid (G = if (x.drop (m + 1)).any (farAtom THR.length) || (ANY.drop (n + 1)).any (fun L => L.any (farAtom THR.length)) then 10 else 0) := by
                                rw [Hid, HJ0.out, decide_eq_false hf, Bool.false_or]
                              clear HJ0
                              go_wp2
                              go_region
                              go_wp2
                              go_roundg (x.length - (m + 1))
                              case measure => omega
                              case rel => exact ⟨m + 1, by omega, rfl, by go_num, HO.out.drew, TB.on (On.refl _).drew, HJ⟩
                          · have HJ : Hid (G = if (ANY.drop (n + 1)).any (fun L => L.any (farAtom THR.length)) then 10 else 0) := by
                              rw [Hid, HI.out, List.drop_of_length_le hgm]; rfl
                            clear HI rx
                            go_wp2
                            go_roundg (ANY.length - (n + 1))
                            case measure => omega
                            case rel => exact ⟨n + 1, by omega, rfl, by go_num, HO, TB, HJ⟩
                      · obtain rfl : n = ANY.length := by omega
                        obtain rfl : G = 0 := by rw [HG.out, List.drop_of_length_le hge]; rfl
                        clear HG
                        go_wp2
                        go_ret
                        exact ⟨rfl, HO.out⟩
end Go.Proofs.YtmnpcbcnjnklnaaGreatDoor.Wl
