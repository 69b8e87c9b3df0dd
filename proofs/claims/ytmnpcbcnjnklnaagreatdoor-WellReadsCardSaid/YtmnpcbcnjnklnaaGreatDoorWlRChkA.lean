/- The document's Check, part by part. -/
import Derived.Test.YtmnpcbcnjnklnaaGreatDoorJ41WlROkE
import Derived.Test.YtmnpcbcnjnklnaaGreatDoorWlRLocs
import Derived.Test.YtmnpcbcnjnklnaaGreatDoorJ42WlCheckC
namespace Go.Proofs.YtmnpcbcnjnklnaaGreatDoor.Wl
open Go.RowKit
set_option linter.unusedSimpArgs false
set_option linter.unusedVariables false

/-- How many letters the document's Locs tells. -/
def rlen (t : TestT) : Nat := (outTo (markI (allLs t) (fun _ => false)) 123).length
/-- Does a letter stand twice? -/
def twF : List Int → List InitT → Bool
  | _, [] => false
  | S, x :: r => S.any (fun y => y == x.l) || twF (S ++ [x.l]) r
def sumM (n : Nat) (LL : List (List InsT)) : Nat := LL.foldl (fun n L => n + min L.length 100) n
def bigR (THR : List (List InsT)) (ANY : List (List AtomT)) : Bool := THR.any (fun L => decide (10 < L.length)) || (ANY.any (fun L => decide (8 < L.length)) || decide (24 < sumM 0 THR))

set_option maxHeartbeats 16000000 in
set_option maxRecDepth 8000 in
theorem rbig1 (t : TestT) (v : Value) (w : World) (h : TestRd w v t) (htest : testOk t = true) (p1 : t.thr.length < 1) :
    Calls Tryz.prog 11 #[v] w fun e w' => e = .returned (.int .i64 8) ∧ On w w' := by
  obtain ⟨a1, c1, a2, c2, a3, c3, rfl, hnm, r1, r2, r3⟩ := h.ex
  have hTO := fun (W : World) (k : On w W) => rtestOk_is t _ W (h.on k)
  have hLO := fun (W : World) (k : On w W) => rlocs_is t _ W (h.on k)
  rw [htest] at hTO
  clear h htest
  obtain ⟨_, _, _, _, hm1⟩ := r1.slice
  obtain ⟨_, _, _, _, hm2⟩ := r2.slice
  obtain ⟨_, _, _, _, hm3⟩ := r3.slice
  have R1 : Hid (Rd iniC 2 w (.slice a1 t.ini.length c1) t.ini) := r1
  have R2 : Hid (Rd2 insC 9 w (.slice a2 t.thr.length c2) t.thr) := r2
  have R3 : Hid (Rd2 atomC 4 w (.slice a3 t.cond.any.length c3) t.cond.any) := r3
  clear r1 r2 r3
  have hrl : rlen t = (outTo (markI (allLs t) (fun _ => false)) 123).length := rfl
  rw [← hrl] at hLO
  clear hrl
  generalize (outTo (markI (allLs t) (fun _ => false)) 123).map byteV = rv at *
  generalize rlen t = rl at *
  generalize t.name = nm at *
  generalize t.cond.k = kk at *
  generalize t.ini = INI at *
  generalize t.thr = THR at *
  generalize t.cond.any = ANY at *
  have bt : ∀ cs T W, On (w.alloc (.cells cs T)) W → Bk W w.heap.size cs := fun cs T W k => (Bk.new w cs T).on k
  go_enter Tryz.func11, Tryz.ntmps11
  go_wp2_with fail
  go_at_call 33
  refine (hTO _ ((On.refl w).alloc _)).mono ?_
  rintro e w2 ⟨rfl, k2⟩
  have TB := bt _ _ _ k2
  have HO : Hid (On w w2) := ((On.refl w).alloc _).trans k2
  have t0 := TB.at (i := 0) rfl
  have t1 := TB.at (i := 1) rfl
  have t2 := TB.at (i := 2) rfl
  have t3 := TB.at (i := 3) rfl
  have t4 := TB.at (i := 4) rfl
  have tl := TB.lt
  clear bt k2 hTO
  clear hLO
  go_wp2
  clear t0 t1 t2 t3 t4 tl
  go_loopg [3, 4, 5] 5 (fun gg s3 s4 s5 wq => ∃ n s : Nat, n ≤ THR.length ∧ n ≤ 5 ∧ gg = 5 - n ∧ s5 = .int .i64 n ∧ s3 = .int .i64 s ∧ s4 = .bool true ∧ s ≤ 100 * n ∧ Hid (On w wq) ∧ Bk wq w.heap.size #[.string nm, .slice a1 INI.length c1, .slice a2 THR.length c2, .int .i64 kk, .slice a3 ANY.length c3])
  case atStart => exact ⟨0, 0, Nat.zero_le _, Nat.zero_le _, rfl, rfl, rfl, by first | rfl | (refine congrArg Value.bool ?_; simp; omega), Nat.le_refl _, HO, TB⟩
  case round =>
    clear HO TB
    obtain ⟨n, s, hn, hn5, hk, rfl, rfl, rfl, hs, HO, TB⟩ := hrel
    have t2 := TB.at (i := 2) rfl
    have t4 := TB.at (i := 4) rfl
    have tl := TB.lt
    by_cases hgo : n < THR.length ∧ n < 5
    · obtain ⟨hlt, h5⟩ := hgo
      obtain ⟨x, hx⟩ : ∃ x, THR[n]? = some x := ⟨_, List.getElem?_eq_getElem hlt⟩
      obtain ⟨g, off, rfl, hg, ax, cx, v0, hxm, _⟩ := (R2.out.on HO.out).row hx
      clear hx
      exact absurd hlt (by omega)
    rcases Nat.lt_or_ge n THR.length with hlt | hge
    · exact absurd hlt (by omega)
    · clear hgo
      go_wp2
      clear t2 t4 tl
      go_loopg [4, 6] ANY.length (fun gg s4 s6 wq => ∃ n : Nat, n ≤ ANY.length ∧ gg = ANY.length - n ∧ s6 = .int .i64 n ∧ s4 = .bool true ∧ Hid (On w wq) ∧ Bk wq w.heap.size #[.string nm, .slice a1 INI.length c1, .slice a2 THR.length c2, .int .i64 kk, .slice a3 ANY.length c3])
      case atStart => exact ⟨0, Nat.zero_le _, rfl, rfl, rfl, HO, TB⟩
      case round =>
        clear HO TB
        obtain ⟨n2, hn2, hk2, rfl, rfl, HO, TB⟩ := hrel
        have t4 := TB.at (i := 4) rfl
        have tl := TB.lt
        rcases Nat.lt_or_ge n2 ANY.length with hlt2 | hge2
        · obtain ⟨x, hx⟩ : ∃ x, ANY[n2]? = some x := ⟨_, List.getElem?_eq_getElem hlt2⟩
          obtain ⟨g, off, rfl, hg, ax, cx, v0, hxm, _⟩ := (R3.out.on HO.out).row hx
          clear hx
          go_wp2
          go_roundg (ANY.length - (n2 + 1))
          case measure => omega
          case rel => exact ⟨n2 + 1, by omega, rfl, by go_num, rfl, HO, TB⟩
        · go_wp2
          go_ret
          exact ⟨rfl, HO.out⟩
set_option maxHeartbeats 16000000 in
set_option maxRecDepth 8000 in
theorem rbig2 (t : TestT) (v : Value) (w : World) (h : TestRd w v t) (htest : testOk t = true) (p1 : ¬ t.thr.length < 1) (p2 : 4 < t.thr.length) :
    Calls Tryz.prog 11 #[v] w fun e w' => e = .returned (.int .i64 8) ∧ On w w' := by
  obtain ⟨a1, c1, a2, c2, a3, c3, rfl, hnm, r1, r2, r3⟩ := h.ex
  have hTO := fun (W : World) (k : On w W) => rtestOk_is t _ W (h.on k)
  have hLO := fun (W : World) (k : On w W) => rlocs_is t _ W (h.on k)
  rw [htest] at hTO
  clear h htest
  obtain ⟨_, _, _, _, hm1⟩ := r1.slice
  obtain ⟨_, _, _, _, hm2⟩ := r2.slice
  obtain ⟨_, _, _, _, hm3⟩ := r3.slice
  have R1 : Hid (Rd iniC 2 w (.slice a1 t.ini.length c1) t.ini) := r1
  have R2 : Hid (Rd2 insC 9 w (.slice a2 t.thr.length c2) t.thr) := r2
  have R3 : Hid (Rd2 atomC 4 w (.slice a3 t.cond.any.length c3) t.cond.any) := r3
  clear r1 r2 r3
  have hrl : rlen t = (outTo (markI (allLs t) (fun _ => false)) 123).length := rfl
  rw [← hrl] at hLO
  clear hrl
  generalize (outTo (markI (allLs t) (fun _ => false)) 123).map byteV = rv at *
  generalize rlen t = rl at *
  generalize t.name = nm at *
  generalize t.cond.k = kk at *
  generalize t.ini = INI at *
  generalize t.thr = THR at *
  generalize t.cond.any = ANY at *
  have bt : ∀ cs T W, On (w.alloc (.cells cs T)) W → Bk W w.heap.size cs := fun cs T W k => (Bk.new w cs T).on k
  go_enter Tryz.func11, Tryz.ntmps11
  go_wp2_with fail
  go_at_call 33
  refine (hTO _ ((On.refl w).alloc _)).mono ?_
  rintro e w2 ⟨rfl, k2⟩
  have TB := bt _ _ _ k2
  have HO : Hid (On w w2) := ((On.refl w).alloc _).trans k2
  have t0 := TB.at (i := 0) rfl
  have t1 := TB.at (i := 1) rfl
  have t2 := TB.at (i := 2) rfl
  have t3 := TB.at (i := 3) rfl
  have t4 := TB.at (i := 4) rfl
  have tl := TB.lt
  clear bt k2 hTO
  clear hLO
  go_wp2
  clear t0 t1 t2 t3 t4 tl
  go_loopg [3, 4, 5] 5 (fun gg s3 s4 s5 wq => ∃ n s : Nat, n ≤ THR.length ∧ n ≤ 5 ∧ gg = 5 - n ∧ s5 = .int .i64 n ∧ s3 = .int .i64 s ∧ s4 = .bool true ∧ s ≤ 100 * n ∧ Hid (On w wq) ∧ Bk wq w.heap.size #[.string nm, .slice a1 INI.length c1, .slice a2 THR.length c2, .int .i64 kk, .slice a3 ANY.length c3])
  case atStart => exact ⟨0, 0, Nat.zero_le _, Nat.zero_le _, rfl, rfl, rfl, by first | rfl | (refine congrArg Value.bool ?_; simp; omega), Nat.le_refl _, HO, TB⟩
  case round =>
    clear HO TB
    obtain ⟨n, s, hn, hn5, hk, rfl, rfl, rfl, hs, HO, TB⟩ := hrel
    have t2 := TB.at (i := 2) rfl
    have t4 := TB.at (i := 4) rfl
    have tl := TB.lt
    by_cases hgo : n < THR.length ∧ n < 5
    · obtain ⟨hlt, h5⟩ := hgo
      obtain ⟨x, hx⟩ : ∃ x, THR[n]? = some x := ⟨_, List.getElem?_eq_getElem hlt⟩
      obtain ⟨g, off, rfl, hg, ax, cx, v0, hxm, _⟩ := (R2.out.on HO.out).row hx
      clear hx
      by_cases h100 : x.length ≤ 100
      · go_wp2
        go_roundg (5 - (n + 1))
        case measure => omega
        case rel => exact ⟨n + 1, s + x.length, by omega, by omega, rfl, by go_num, by go_num, rfl, by omega, HO, TB⟩
      · go_wp2
        go_roundg (5 - (n + 1))
        case measure => omega
        case rel => exact ⟨n + 1, s + 100, by omega, by omega, rfl, by go_num, by go_num, rfl, by omega, HO, TB⟩
    rcases Nat.lt_or_ge n THR.length with hlt | hge
    · obtain rfl : n = 5 := by omega
      go_wp2
      clear t2 t4 tl
      go_loopg [4, 6] ANY.length (fun gg s4 s6 wq => ∃ n : Nat, n ≤ ANY.length ∧ gg = ANY.length - n ∧ s6 = .int .i64 n ∧ s4 = .bool true ∧ Hid (On w wq) ∧ Bk wq w.heap.size #[.string nm, .slice a1 INI.length c1, .slice a2 THR.length c2, .int .i64 kk, .slice a3 ANY.length c3])
      case atStart => exact ⟨0, Nat.zero_le _, rfl, rfl, rfl, HO, TB⟩
      case round =>
        clear HO TB
        obtain ⟨n2, hn2, hk2, rfl, rfl, HO, TB⟩ := hrel
        have t4 := TB.at (i := 4) rfl
        have tl := TB.lt
        rcases Nat.lt_or_ge n2 ANY.length with hlt2 | hge2
        · obtain ⟨x, hx⟩ : ∃ x, ANY[n2]? = some x := ⟨_, List.getElem?_eq_getElem hlt2⟩
          obtain ⟨g, off, rfl, hg, ax, cx, v0, hxm, _⟩ := (R3.out.on HO.out).row hx
          clear hx
          go_wp2
          go_roundg (ANY.length - (n2 + 1))
          case measure => omega
          case rel => exact ⟨n2 + 1, by omega, rfl, by go_num, rfl, HO, TB⟩
        · go_wp2
          go_ret
          exact ⟨rfl, HO.out⟩
    · clear hgo
      go_wp2
      clear t2 t4 tl
      go_loopg [4, 6] ANY.length (fun gg s4 s6 wq => ∃ n : Nat, n ≤ ANY.length ∧ gg = ANY.length - n ∧ s6 = .int .i64 n ∧ s4 = .bool true ∧ Hid (On w wq) ∧ Bk wq w.heap.size #[.string nm, .slice a1 INI.length c1, .slice a2 THR.length c2, .int .i64 kk, .slice a3 ANY.length c3])
      case atStart => exact ⟨0, Nat.zero_le _, rfl, rfl, rfl, HO, TB⟩
      case round =>
        clear HO TB
        obtain ⟨n2, hn2, hk2, rfl, rfl, HO, TB⟩ := hrel
        have t4 := TB.at (i := 4) rfl
        have tl := TB.lt
        rcases Nat.lt_or_ge n2 ANY.length with hlt2 | hge2
        · obtain ⟨x, hx⟩ : ∃ x, ANY[n2]? = some x := ⟨_, List.getElem?_eq_getElem hlt2⟩
          obtain ⟨g, off, rfl, hg, ax, cx, v0, hxm, _⟩ := (R3.out.on HO.out).row hx
          clear hx
          go_wp2
          go_roundg (ANY.length - (n2 + 1))
          case measure => omega
          case rel => exact ⟨n2 + 1, by omega, rfl, by go_num, rfl, HO, TB⟩
        · go_wp2
          go_ret
          exact ⟨rfl, HO.out⟩
set_option maxHeartbeats 16000000 in
set_option maxRecDepth 8000 in
theorem rbig3 (t : TestT) (v : Value) (w : World) (h : TestRd w v t) (htest : testOk t = true) (p1 : ¬ t.thr.length < 1) (p2 : ¬ 4 < t.thr.length) (p3 : 20 < t.name.size) :
    Calls Tryz.prog 11 #[v] w fun e w' => e = .returned (.int .i64 8) ∧ On w w' := by
  obtain ⟨a1, c1, a2, c2, a3, c3, rfl, hnm, r1, r2, r3⟩ := h.ex
  have hTO := fun (W : World) (k : On w W) => rtestOk_is t _ W (h.on k)
  have hLO := fun (W : World) (k : On w W) => rlocs_is t _ W (h.on k)
  rw [htest] at hTO
  clear h htest
  obtain ⟨_, _, _, _, hm1⟩ := r1.slice
  obtain ⟨_, _, _, _, hm2⟩ := r2.slice
  obtain ⟨_, _, _, _, hm3⟩ := r3.slice
  have R1 : Hid (Rd iniC 2 w (.slice a1 t.ini.length c1) t.ini) := r1
  have R2 : Hid (Rd2 insC 9 w (.slice a2 t.thr.length c2) t.thr) := r2
  have R3 : Hid (Rd2 atomC 4 w (.slice a3 t.cond.any.length c3) t.cond.any) := r3
  clear r1 r2 r3
  have hrl : rlen t = (outTo (markI (allLs t) (fun _ => false)) 123).length := rfl
  rw [← hrl] at hLO
  clear hrl
  generalize (outTo (markI (allLs t) (fun _ => false)) 123).map byteV = rv at *
  generalize rlen t = rl at *
  generalize t.name = nm at *
  generalize t.cond.k = kk at *
  generalize t.ini = INI at *
  generalize t.thr = THR at *
  generalize t.cond.any = ANY at *
  have bt : ∀ cs T W, On (w.alloc (.cells cs T)) W → Bk W w.heap.size cs := fun cs T W k => (Bk.new w cs T).on k
  go_enter Tryz.func11, Tryz.ntmps11
  go_wp2_with fail
  go_at_call 33
  refine (hTO _ ((On.refl w).alloc _)).mono ?_
  rintro e w2 ⟨rfl, k2⟩
  have TB := bt _ _ _ k2
  have HO : Hid (On w w2) := ((On.refl w).alloc _).trans k2
  have t0 := TB.at (i := 0) rfl
  have t1 := TB.at (i := 1) rfl
  have t2 := TB.at (i := 2) rfl
  have t3 := TB.at (i := 3) rfl
  have t4 := TB.at (i := 4) rfl
  have tl := TB.lt
  clear bt k2 hTO
  clear hLO
  go_wp2
  clear t0 t1 t2 t3 t4 tl
  go_loopg [3, 4, 5] 5 (fun gg s3 s4 s5 wq => ∃ n s : Nat, n ≤ THR.length ∧ n ≤ 5 ∧ gg = 5 - n ∧ s5 = .int .i64 n ∧ s3 = .int .i64 s ∧ s4 = .bool true ∧ s ≤ 100 * n ∧ Hid (On w wq) ∧ Bk wq w.heap.size #[.string nm, .slice a1 INI.length c1, .slice a2 THR.length c2, .int .i64 kk, .slice a3 ANY.length c3])
  case atStart => exact ⟨0, 0, Nat.zero_le _, Nat.zero_le _, rfl, rfl, rfl, by first | rfl | (refine congrArg Value.bool ?_; simp; omega), Nat.le_refl _, HO, TB⟩
  case round =>
    clear HO TB
    obtain ⟨n, s, hn, hn5, hk, rfl, rfl, rfl, hs, HO, TB⟩ := hrel
    have t2 := TB.at (i := 2) rfl
    have t4 := TB.at (i := 4) rfl
    have tl := TB.lt
    by_cases hgo : n < THR.length ∧ n < 5
    · obtain ⟨hlt, h5⟩ := hgo
      obtain ⟨x, hx⟩ : ∃ x, THR[n]? = some x := ⟨_, List.getElem?_eq_getElem hlt⟩
      obtain ⟨g, off, rfl, hg, ax, cx, v0, hxm, _⟩ := (R2.out.on HO.out).row hx
      clear hx
      by_cases h100 : x.length ≤ 100
      · go_wp2
        go_roundg (5 - (n + 1))
        case measure => omega
        case rel => exact ⟨n + 1, s + x.length, by omega, by omega, rfl, by go_num, by go_num, rfl, by omega, HO, TB⟩
      · go_wp2
        go_roundg (5 - (n + 1))
        case measure => omega
        case rel => exact ⟨n + 1, s + 100, by omega, by omega, rfl, by go_num, by go_num, rfl, by omega, HO, TB⟩
    rcases Nat.lt_or_ge n THR.length with hlt | hge
    · exact absurd hlt (by omega)
    · clear hgo
      go_wp2
      clear t2 t4 tl
      go_loopg [4, 6] ANY.length (fun gg s4 s6 wq => ∃ n : Nat, n ≤ ANY.length ∧ gg = ANY.length - n ∧ s6 = .int .i64 n ∧ s4 = .bool true ∧ Hid (On w wq) ∧ Bk wq w.heap.size #[.string nm, .slice a1 INI.length c1, .slice a2 THR.length c2, .int .i64 kk, .slice a3 ANY.length c3])
      case atStart => exact ⟨0, Nat.zero_le _, rfl, rfl, rfl, HO, TB⟩
      case round =>
        clear HO TB
        obtain ⟨n2, hn2, hk2, rfl, rfl, HO, TB⟩ := hrel
        have t4 := TB.at (i := 4) rfl
        have tl := TB.lt
        rcases Nat.lt_or_ge n2 ANY.length with hlt2 | hge2
        · obtain ⟨x, hx⟩ : ∃ x, ANY[n2]? = some x := ⟨_, List.getElem?_eq_getElem hlt2⟩
          obtain ⟨g, off, rfl, hg, ax, cx, v0, hxm, _⟩ := (R3.out.on HO.out).row hx
          clear hx
          go_wp2
          go_roundg (ANY.length - (n2 + 1))
          case measure => omega
          case rel => exact ⟨n2 + 1, by omega, rfl, by go_num, rfl, HO, TB⟩
        · go_wp2
          go_ret
          exact ⟨rfl, HO.out⟩
set_option maxHeartbeats 16000000 in
set_option maxRecDepth 8000 in
theorem rbig4 (t : TestT) (v : Value) (w : World) (h : TestRd w v t) (htest : testOk t = true) (p1 : ¬ t.thr.length < 1) (p2 : ¬ 4 < t.thr.length) (p3 : ¬ 20 < t.name.size) (p4 : 8 < t.cond.any.length) :
    Calls Tryz.prog 11 #[v] w fun e w' => e = .returned (.int .i64 8) ∧ On w w' := by
  obtain ⟨a1, c1, a2, c2, a3, c3, rfl, hnm, r1, r2, r3⟩ := h.ex
  have hTO := fun (W : World) (k : On w W) => rtestOk_is t _ W (h.on k)
  have hLO := fun (W : World) (k : On w W) => rlocs_is t _ W (h.on k)
  rw [htest] at hTO
  clear h htest
  obtain ⟨_, _, _, _, hm1⟩ := r1.slice
  obtain ⟨_, _, _, _, hm2⟩ := r2.slice
  obtain ⟨_, _, _, _, hm3⟩ := r3.slice
  have R1 : Hid (Rd iniC 2 w (.slice a1 t.ini.length c1) t.ini) := r1
  have R2 : Hid (Rd2 insC 9 w (.slice a2 t.thr.length c2) t.thr) := r2
  have R3 : Hid (Rd2 atomC 4 w (.slice a3 t.cond.any.length c3) t.cond.any) := r3
  clear r1 r2 r3
  have hrl : rlen t = (outTo (markI (allLs t) (fun _ => false)) 123).length := rfl
  rw [← hrl] at hLO
  clear hrl
  generalize (outTo (markI (allLs t) (fun _ => false)) 123).map byteV = rv at *
  generalize rlen t = rl at *
  generalize t.name = nm at *
  generalize t.cond.k = kk at *
  generalize t.ini = INI at *
  generalize t.thr = THR at *
  generalize t.cond.any = ANY at *
  have bt : ∀ cs T W, On (w.alloc (.cells cs T)) W → Bk W w.heap.size cs := fun cs T W k => (Bk.new w cs T).on k
  go_enter Tryz.func11, Tryz.ntmps11
  go_wp2_with fail
  go_at_call 33
  refine (hTO _ ((On.refl w).alloc _)).mono ?_
  rintro e w2 ⟨rfl, k2⟩
  have TB := bt _ _ _ k2
  have HO : Hid (On w w2) := ((On.refl w).alloc _).trans k2
  have t0 := TB.at (i := 0) rfl
  have t1 := TB.at (i := 1) rfl
  have t2 := TB.at (i := 2) rfl
  have t3 := TB.at (i := 3) rfl
  have t4 := TB.at (i := 4) rfl
  have tl := TB.lt
  clear bt k2 hTO
  clear hLO
  go_wp2
  clear t0 t1 t2 t3 t4 tl
  go_loopg [3, 4, 5] 5 (fun gg s3 s4 s5 wq => ∃ n s : Nat, n ≤ THR.length ∧ n ≤ 5 ∧ gg = 5 - n ∧ s5 = .int .i64 n ∧ s3 = .int .i64 s ∧ s4 = .bool true ∧ s ≤ 100 * n ∧ Hid (On w wq) ∧ Bk wq w.heap.size #[.string nm, .slice a1 INI.length c1, .slice a2 THR.length c2, .int .i64 kk, .slice a3 ANY.length c3])
  case atStart => exact ⟨0, 0, Nat.zero_le _, Nat.zero_le _, rfl, rfl, rfl, by first | rfl | (refine congrArg Value.bool ?_; simp; omega), Nat.le_refl _, HO, TB⟩
  case round =>
    clear HO TB
    obtain ⟨n, s, hn, hn5, hk, rfl, rfl, rfl, hs, HO, TB⟩ := hrel
    have t2 := TB.at (i := 2) rfl
    have t4 := TB.at (i := 4) rfl
    have tl := TB.lt
    by_cases hgo : n < THR.length ∧ n < 5
    · obtain ⟨hlt, h5⟩ := hgo
      obtain ⟨x, hx⟩ : ∃ x, THR[n]? = some x := ⟨_, List.getElem?_eq_getElem hlt⟩
      obtain ⟨g, off, rfl, hg, ax, cx, v0, hxm, _⟩ := (R2.out.on HO.out).row hx
      clear hx
      by_cases h100 : x.length ≤ 100
      · go_wp2
        go_roundg (5 - (n + 1))
        case measure => omega
        case rel => exact ⟨n + 1, s + x.length, by omega, by omega, rfl, by go_num, by go_num, rfl, by omega, HO, TB⟩
      · go_wp2
        go_roundg (5 - (n + 1))
        case measure => omega
        case rel => exact ⟨n + 1, s + 100, by omega, by omega, rfl, by go_num, by go_num, rfl, by omega, HO, TB⟩
    rcases Nat.lt_or_ge n THR.length with hlt | hge
    · exact absurd hlt (by omega)
    · clear hgo
      go_wp2
      clear t2 t4 tl
      go_loopg [4, 6] ANY.length (fun gg s4 s6 wq => ∃ n : Nat, n ≤ ANY.length ∧ gg = ANY.length - n ∧ s6 = .int .i64 n ∧ s4 = .bool true ∧ Hid (On w wq) ∧ Bk wq w.heap.size #[.string nm, .slice a1 INI.length c1, .slice a2 THR.length c2, .int .i64 kk, .slice a3 ANY.length c3])
      case atStart => exact ⟨0, Nat.zero_le _, rfl, rfl, rfl, HO, TB⟩
      case round =>
        clear HO TB
        obtain ⟨n2, hn2, hk2, rfl, rfl, HO, TB⟩ := hrel
        have t4 := TB.at (i := 4) rfl
        have tl := TB.lt
        rcases Nat.lt_or_ge n2 ANY.length with hlt2 | hge2
        · obtain ⟨x, hx⟩ : ∃ x, ANY[n2]? = some x := ⟨_, List.getElem?_eq_getElem hlt2⟩
          obtain ⟨g, off, rfl, hg, ax, cx, v0, hxm, _⟩ := (R3.out.on HO.out).row hx
          clear hx
          go_wp2
          go_roundg (ANY.length - (n2 + 1))
          case measure => omega
          case rel => exact ⟨n2 + 1, by omega, rfl, by go_num, rfl, HO, TB⟩
        · go_wp2
          go_ret
          exact ⟨rfl, HO.out⟩
set_option maxHeartbeats 16000000 in
set_option maxRecDepth 8000 in
theorem rbig5 (t : TestT) (v : Value) (w : World) (h : TestRd w v t) (htest : testOk t = true) (p1 : ¬ t.thr.length < 1) (p2 : ¬ 4 < t.thr.length) (p3 : ¬ 20 < t.name.size) (p4 : ¬ 8 < t.cond.any.length) (p5 : 4 < rlen t) :
    Calls Tryz.prog 11 #[v] w fun e w' => e = .returned (.int .i64 8) ∧ On w w' := by
  obtain ⟨a1, c1, a2, c2, a3, c3, rfl, hnm, r1, r2, r3⟩ := h.ex
  have hTO := fun (W : World) (k : On w W) => rtestOk_is t _ W (h.on k)
  have hLO := fun (W : World) (k : On w W) => rlocs_is t _ W (h.on k)
  rw [htest] at hTO
  clear h htest
  obtain ⟨_, _, _, _, hm1⟩ := r1.slice
  obtain ⟨_, _, _, _, hm2⟩ := r2.slice
  obtain ⟨_, _, _, _, hm3⟩ := r3.slice
  have R1 : Hid (Rd iniC 2 w (.slice a1 t.ini.length c1) t.ini) := r1
  have R2 : Hid (Rd2 insC 9 w (.slice a2 t.thr.length c2) t.thr) := r2
  have R3 : Hid (Rd2 atomC 4 w (.slice a3 t.cond.any.length c3) t.cond.any) := r3
  clear r1 r2 r3
  have hrl : rlen t = (outTo (markI (allLs t) (fun _ => false)) 123).length := rfl
  rw [← hrl] at hLO
  clear hrl
  generalize (outTo (markI (allLs t) (fun _ => false)) 123).map byteV = rv at *
  generalize rlen t = rl at *
  generalize t.name = nm at *
  generalize t.cond.k = kk at *
  generalize t.ini = INI at *
  generalize t.thr = THR at *
  generalize t.cond.any = ANY at *
  have bt : ∀ cs T W, On (w.alloc (.cells cs T)) W → Bk W w.heap.size cs := fun cs T W k => (Bk.new w cs T).on k
  go_enter Tryz.func11, Tryz.ntmps11
  go_wp2_with fail
  go_at_call 33
  refine (hTO _ ((On.refl w).alloc _)).mono ?_
  rintro e w2 ⟨rfl, k2⟩
  have TB := bt _ _ _ k2
  have HO : Hid (On w w2) := ((On.refl w).alloc _).trans k2
  have t0 := TB.at (i := 0) rfl
  have t1 := TB.at (i := 1) rfl
  have t2 := TB.at (i := 2) rfl
  have t3 := TB.at (i := 3) rfl
  have t4 := TB.at (i := 4) rfl
  have tl := TB.lt
  clear bt k2 hTO
  go_wp2_with fail
  go_at_call 34
  refine (hLO _ HO.out).mono ?_
  rintro e w3 ⟨al, cl, rfl, _, k3⟩
  clear t0 t1 t2 t3 t4 tl
  replace TB := TB.on k3
  replace HO : Hid (On w w3) := HO.out.trans k3
  have t0 := TB.at (i := 0) rfl
  have t1 := TB.at (i := 1) rfl
  have t2 := TB.at (i := 2) rfl
  have t3 := TB.at (i := 3) rfl
  have t4 := TB.at (i := 4) rfl
  have tl := TB.lt
  clear hLO k3
  go_wp2
  clear t0 t1 t2 t3 t4 tl
  go_loopg [3, 4, 5] 5 (fun gg s3 s4 s5 wq => ∃ n s : Nat, n ≤ THR.length ∧ n ≤ 5 ∧ gg = 5 - n ∧ s5 = .int .i64 n ∧ s3 = .int .i64 s ∧ s4 = .bool true ∧ s ≤ 100 * n ∧ Hid (On w wq) ∧ Bk wq w.heap.size #[.string nm, .slice a1 INI.length c1, .slice a2 THR.length c2, .int .i64 kk, .slice a3 ANY.length c3])
  case atStart => exact ⟨0, 0, Nat.zero_le _, Nat.zero_le _, rfl, rfl, rfl, by first | rfl | (refine congrArg Value.bool ?_; simp; omega), Nat.le_refl _, HO, TB⟩
  case round =>
    clear HO TB
    obtain ⟨n, s, hn, hn5, hk, rfl, rfl, rfl, hs, HO, TB⟩ := hrel
    have t2 := TB.at (i := 2) rfl
    have t4 := TB.at (i := 4) rfl
    have tl := TB.lt
    by_cases hgo : n < THR.length ∧ n < 5
    · obtain ⟨hlt, h5⟩ := hgo
      obtain ⟨x, hx⟩ : ∃ x, THR[n]? = some x := ⟨_, List.getElem?_eq_getElem hlt⟩
      obtain ⟨g, off, rfl, hg, ax, cx, v0, hxm, _⟩ := (R2.out.on HO.out).row hx
      clear hx
      by_cases h100 : x.length ≤ 100
      · go_wp2
        go_roundg (5 - (n + 1))
        case measure => omega
        case rel => exact ⟨n + 1, s + x.length, by omega, by omega, rfl, by go_num, by go_num, rfl, by omega, HO, TB⟩
      · go_wp2
        go_roundg (5 - (n + 1))
        case measure => omega
        case rel => exact ⟨n + 1, s + 100, by omega, by omega, rfl, by go_num, by go_num, rfl, by omega, HO, TB⟩
    rcases Nat.lt_or_ge n THR.length with hlt | hge
    · exact absurd hlt (by omega)
    · clear hgo
      go_wp2
      clear t2 t4 tl
      go_loopg [4, 6] ANY.length (fun gg s4 s6 wq => ∃ n : Nat, n ≤ ANY.length ∧ gg = ANY.length - n ∧ s6 = .int .i64 n ∧ s4 = .bool true ∧ Hid (On w wq) ∧ Bk wq w.heap.size #[.string nm, .slice a1 INI.length c1, .slice a2 THR.length c2, .int .i64 kk, .slice a3 ANY.length c3])
      case atStart => exact ⟨0, Nat.zero_le _, rfl, rfl, rfl, HO, TB⟩
      case round =>
        clear HO TB
        obtain ⟨n2, hn2, hk2, rfl, rfl, HO, TB⟩ := hrel
        have t4 := TB.at (i := 4) rfl
        have tl := TB.lt
        rcases Nat.lt_or_ge n2 ANY.length with hlt2 | hge2
        · obtain ⟨x, hx⟩ : ∃ x, ANY[n2]? = some x := ⟨_, List.getElem?_eq_getElem hlt2⟩
          obtain ⟨g, off, rfl, hg, ax, cx, v0, hxm, _⟩ := (R3.out.on HO.out).row hx
          clear hx
          go_wp2
          go_roundg (ANY.length - (n2 + 1))
          case measure => omega
          case rel => exact ⟨n2 + 1, by omega, rfl, by go_num, rfl, HO, TB⟩
        · go_wp2
          go_ret
          exact ⟨rfl, HO.out⟩
end Go.Proofs.YtmnpcbcnjnklnaaGreatDoor.Wl
