/- The document's Place and Compile for every test that lies in memory. -/
import Derived.Test.YtplihlmejnohnaaGreatDoorJ04StepA
import Derived.Test.YtplihlmejnohnaaGreatDoorJ21RLocs
import Derived.Test.YtplihlmejnohnaaGreatDoorJ18StepH
import Derived.Deep.QuietTactic
import Derived.BigQuiet
import Derived.Test.YtplihlmejnohnaaGreatDoorJ20BegW
import Derived.Test.YtplihlmejnohnaaGreatDoorJ17SmallB
import Derived.Test.YtplihlmejnohnaaGreatDoorJ14SmallP
namespace Go.Proofs.YtplihlmejnohnaaGreatDoor
open Go.RowKit

/-- Where a letter stands first, from place i on. -/
def plFrom (l : Int) : Nat → List UInt8 → Int
  | _, [] => -1
  | i, b :: r => if ((b.toNat : Int) == l) then (i : Int) else plFrom l (i + 1) r
def plR (LT : List UInt8) (l : Int) : Int := plFrom l 0 LT
set_option maxHeartbeats 2000000 in
theorem rplace_is (LT : List UInt8) (l : Int) (al a2 a3 : Option Addr) (cl m2 c2 m3 c3 : Nat) (w : World) (h : Rd byteC 1 w (.slice al LT.length cl) LT) :
    Calls Tryz.prog 53 #[.agg #[.slice al LT.length cl, .slice a2 m2 c2, .slice a3 m3 c3], .int .i64 l] w fun e w' => e = .returned (.int .i64 (plR LT l)) ∧ On w w' := by
  obtain ⟨_, _, _, _, hm⟩ := h.slice
  have HR : Hid (Rd byteC 1 w (.slice al LT.length cl) LT) := h
  obtain ⟨R, hR⟩ : ∃ R, R = plR LT l := ⟨_, rfl⟩
  rw [← hR]
  have HS : Hid (R = plFrom l 0 (LT.drop 0)) := hR
  clear h hR
  have bt : ∀ cs T, Bk (w.alloc (.cells cs T)) w.heap.size cs := fun cs T => Bk.new w cs T
  go_enter Tryz.func53, Tryz.ntmps53
  go_wp2
  go_loopg [5] LT.length (fun gg s5 wq => ∃ n : Nat, n ≤ LT.length ∧ gg = LT.length - n ∧ s5 = .int .i64 n ∧ Hid (On w wq) ∧ Bk wq w.heap.size #[.slice al LT.length cl, .slice a2 m2 c2, .slice a3 m3 c3] ∧ Hid (R = plFrom l n (LT.drop n)))
  case atStart => exact ⟨0, Nat.zero_le _, rfl, rfl, (On.refl w).alloc _, bt _ _, HS⟩
  case round =>
    clear HS bt
    obtain ⟨n, hn, hk, rfl, HO, TB, HS⟩ := hrel
    have t0 := TB.at (i := 0) rfl
    have tl := TB.lt
    rcases Nat.lt_or_ge n LT.length with hlt | hge
    · obtain ⟨b, hb⟩ : ∃ b, LT[n]? = some b := ⟨_, List.getElem?_eq_getElem hlt⟩
      obtain ⟨g, off, rfl, hg, hcell⟩ := (HR.out.on HO.out).at hb
      have q0 : wr.cell? ⟨g, off + n, none⟩ = some (.int .u8 (b.toNat : Int)) := by have := hcell 0 _ rfl; rwa [Nat.mul_one, Nat.add_zero] at this
      have hd : Hid (LT.drop n = b :: LT.drop (n + 1)) := drop_at hb
      have hbb := b.toNat_lt
      cases he : ((b.toNat : Int) == l) with
      | true =>
        obtain rfl : R = (n : Int) := by rw [HS.out, hd.out, plFrom, he]; rfl
        clear HS hd hcell hb
        go_wp2
        go_ret
        exact ⟨rfl, HO.out⟩
      | false =>
        have HJ : Hid (R = plFrom l (n + 1) (LT.drop (n + 1))) := by
          show R = _
          rw [HS.out, hd.out, plFrom, he]; rfl
        clear HS hd hcell hb
        go_wp2
        go_roundg (LT.length - (n + 1))
        case measure => omega
        case rel => exact ⟨n + 1, by omega, rfl, by go_num, HO, TB, HJ⟩
    · obtain rfl : n = LT.length := by omega
      obtain rfl : R = -1 := by rw [HS.out, List.drop_of_length_le hge]; rfl
      go_wp2
      go_ret
      exact ⟨rfl, HO.out⟩

/-- The number that a location begins with. -/
def valFrom (b : UInt8) (L : List InitT) (v : Int) : Int := L.foldl (fun v x => if (x.l == (b.toNat : Int)) then x.v else v) v
def iniVals (LT : List UInt8) (L : List InitT) : List Int := LT.map (fun b => valFrom b L 0)
def rplIns (LT : List UInt8) (x : InsT) : InsT := if x.l == 0 then x else ⟨x.k, x.r, plR LT x.l, x.a, x.o, x.b, x.n⟩
def rplRow (LT : List UInt8) (L : List InsT) : List InsT := L.map (rplIns LT)
def locsR (t : TestT) : List UInt8 := outTo (markI (allLs t) (fun _ => false)) 123
/-- v is a program: its locations, their numbers, its threads. -/
structure ProgFl (w : World) (v : Value) (LT : List UInt8) (IN : List Int) (LL : List (List InsT)) : Prop where
  ex : ∃ a1 c1 a2 c2 a3 c3, v = .agg #[.slice a1 LT.length c1, .slice a2 IN.length c2, .slice a3 LL.length c3] ∧ Rd byteC 1 w (.slice a1 LT.length c1) LT ∧ Rd intC 1 w (.slice a2 IN.length c2) IN ∧ Rd2 insC 9 w (.slice a3 LL.length c3) LL
theorem ProgFl.on {w w' : World} {v : Value} {LT : List UInt8} {IN : List Int} {LL : List (List InsT)} (h : ProgFl w v LT IN LL) (k : On w w') : ProgFl w' v LT IN LL := by
  obtain ⟨a1, c1, a2, c2, a3, c3, e, h1, h2, h3⟩ := h.ex
  exact ⟨a1, c1, a2, c2, a3, c3, e, h1.on k, h2.on k, h3.on k⟩
theorem ProgFl.rd {w : World} {v : Value} {LT : List UInt8} {IN : List Int} {LL : List (List InsT)} (h : ProgFl w v LT IN LL) : ProgRd w v LL := by
  obtain ⟨a1, c1, a2, c2, a3, c3, e, h1, h2, h3⟩ := h.ex
  exact ⟨a1, _, c1, a2, _, c2, a3, c3, e, h3⟩
theorem own_ne_wa2 {w w' : World} {B base k n : Nat} {e : TypeId} {v : Value} {xs : List Value} (h : w.ownsRow base e k v n xs) (kk : Wa B w w') (hB : ∀ b, v.ownBlock = some b → b ≠ B) : w'.ownsRow base e k v n xs := by
  refine ⟨h.1, ?_⟩
  rcases h.2 with h2 | ⟨g, cap, cur, rfl, hb, hh, r⟩
  · exact Or.inl h2
  · exact Or.inr ⟨g, cap, cur, rfl, hb, (kk.block g (lt_of_block hh) (fun e => hB g rfl (Option.some.inj e))).trans hh, r⟩
theorem ne7 : (2 : TypeId) ≠ 117 := by decide
theorem ne8 : (117 : TypeId) ≠ 2 := by decide
theorem one_int (v : Int) : ∀ u ∈ [Value.int .i64 v], u.oneCell' = true := by
  intro u hu
  simp only [List.mem_cons, List.not_mem_nil, or_false] at hu
  subst hu
  rfl
set_option maxHeartbeats 16000000 in
set_option maxRecDepth 8000 in
theorem rcompile_is (t : TestT) (v : Value) (w : World) (h : TestRd w v t) (h24 : t.thr.length ≤ 1000000 ∧ ∀ L ∈ t.thr, L.length ≤ 1000000) :
    Calls Tryz.prog 29 #[v] w fun e w' => ∃ pv, e = .returned pv ∧ (∀ (N : Nat) (ps : List Value) (o : Nat), N < w.heap.size ∨ ps = [] → ProgFl (putCells w' N o ps) pv (locsR t) (iniVals (locsR t) t.ini) (t.thr.map (rplRow (locsR t)))) ∧ On w w' := by
  obtain ⟨j0, hj, jz0, jz1, jz2⟩ := info_parts infoI64
  obtain ⟨i0, hi, hz0, hz1, hz2⟩ := info_parts infoThr
  obtain ⟨i1, hi1, y0, y1, y2⟩ := info_parts infoIns
  have hL := fun W (k : On w W) => rlocs_is t v W (h.on k)
  have hl26 : (locsR t).length ≤ 26 := outTo_len _ 123
  obtain ⟨a1, c1, a2, c2, a3, c3, rfl, hnm, r1, r2, r3⟩ := h.ex
  obtain ⟨_, _, _, _, hm1⟩ := r1.slice
  have R1 : Hid (Rd iniC 2 w (.slice a1 t.ini.length c1) t.ini) := r1
  have R2 : Hid (Rd2 insC 9 w (.slice a2 t.thr.length c2) t.thr) := r2
  have hLx : ∀ W, On w W → Calls Tryz.prog 52 #[.agg #[.string t.name, .slice a1 t.ini.length c1, .slice a2 t.thr.length c2, .int .i64 t.cond.k, .slice a3 t.cond.any.length c3]] W fun e w' => ∃ a c, e = .returned (.slice a (locsR t).length c) ∧ w'.ownsRow W.heap.size 5 1 (.slice a (locsR t).length c) (locsR t).length ((locsR t).map byteV) ∧ On W w' := hL
  clear h hnm r1 r2 r3 hL
  generalize locsR t = LT at *
  obtain ⟨h24a, h24b⟩ := h24
  generalize t.name = nm at *
  generalize t.cond.k = kk at *
  generalize t.cond.any.length = m3 at *
  generalize t.ini = INI at *
  generalize t.thr = THR at *
  have HB : Hid (∀ L ∈ THR, L.length ≤ 1000000) := h24b
  clear h24b
  have k0 : ∀ A B, On w ((w.alloc A).alloc B) := fun A B => ((On.refl w).alloc A).alloc B
  have bt : ∀ cs T B, Bk ((w.alloc (.cells cs T)).alloc B) w.heap.size cs := fun cs T B => (Bk.new w cs T).alloc B
  have br : ∀ A cs T, Bk ((w.alloc A).alloc (.cells cs T)) (w.heap.size + 1) cs := fun A cs T => by have := Bk.new (w.alloc A) cs T; rwa [World.size_alloc] at this
  go_enter Tryz.func29, Tryz.ntmps29
  go_wp2_with fail
  refine (hLx _ (k0 _ _)).mono ?_
  rintro e w1 ⟨al, cl, rfl, ho, k1⟩
  have TB1 := (bt _ _ _).on k1
  have ZB1 := (br _ _ _).on k1
  have K1 : Hid (On w w1) := (k0 _ _).trans k1
  have HL : Hid (Rd byteC 1 w1 (.slice al LT.length cl) LT) := rd_bytes ho
  have HLO : Hid (w1.ownsRow (w.heap.size + 1 + 1) 5 1 (.slice al LT.length cl) LT.length (LT.map byteV)) := own_mono ho (by simp only [World.size_alloc]; omega)
  have tl1 := TB1.lt
  have zl1 := ZB1.lt
  have hP0 : ∀ cs T, Bk (w1.alloc (.cells cs T)) w1.heap.size cs := fun cs T => Bk.new w1 cs T
  clear hLx k1 ho k0 bt br
  go_wp2
  go_loopg [4] LT.length (fun gg s4 wq => ∃ (n : Nat) (a : Option Addr) (c : Nat), n ≤ LT.length ∧ gg = LT.length - n ∧ s4 = .int .i64 n ∧ Hid (On w1 wq) ∧ Bk wq w1.heap.size #[.slice al LT.length cl, .slice a n c, .slice none 0 0] ∧ wq.ownsRow (w1.heap.size + 1) 2 1 (.slice a n c) n ((iniVals (LT.take n) INI).flatMap intC))
  case atStart => exact ⟨0, none, 0, Nat.zero_le _, rfl, rfl, (On.refl w1).alloc _, hP0 _ _, World.ownsRow_nil _ _ _ _⟩
  case round =>
    clear hP0
    obtain ⟨n, a, c, hn, hk, rfl, HO, PB, hown⟩ := hrel
    obtain ⟨V, hV⟩ : ∃ V, V = wr := ⟨_, rfl⟩
    subst hV
    have p0 := PB.at (i := 0) rfl
    have pl := PB.lt
    rcases Nat.lt_or_ge n LT.length with hlt | hge
    · obtain ⟨b, hb⟩ : ∃ b, LT[n]? = some b := ⟨_, List.getElem?_eq_getElem hlt⟩
      have hbb := b.toNat_lt
      obtain ⟨VAL, hVAL⟩ : ∃ VAL, VAL = valFrom b INI 0 := ⟨_, rfl⟩
      have HV : Hid (VAL = valFrom b (INI.drop 0) 0) := hVAL
      have HX : Hid (LT[n]? = some b) := hb
      have HT : Hid (iniVals (LT.take n) INI ++ [VAL] = iniVals (LT.take (n + 1)) INI) := by
        show _ = _
        rw [hVAL]
        unfold iniVals
        rw [List.take_add_one, hb]
        simp
      have HW : Hid _ := hown
      clear hVAL hb hown
      go_wp2
      go_loopg [5, 6] INI.length (fun gg s5 s6 wq => ∃ (m : Nat) (vv : Int), m ≤ INI.length ∧ gg = INI.length - m ∧ s5 = .int .i64 vv ∧ s6 = .int .i64 m ∧ Hid (On V wq) ∧ Hid (VAL = valFrom b (INI.drop m) vv))
      case atStart => exact ⟨0, 0, Nat.zero_le _, rfl, rfl, rfl, On.refl _, HV⟩
      case round =>
        clear HV
        obtain ⟨m, vv, hm, hkm, rfl, rfl, HV2, HV⟩ := hrel
        have kT : On w1 wr := HO.out.trans HV2.out
        have TB := TB1.on kT
        have PBr := PB.on HV2.out
        have t1 := TB.at (i := 1) rfl
        have tl := TB.lt
        have p0r := PBr.at (i := 0) rfl
        have p1r := PBr.at (i := 1) rfl
        have pfr := fun i => PBr.fr i
        have plr := PBr.lt
        rcases Nat.lt_or_ge m INI.length with hlm | hgm
        · obtain ⟨x, hx⟩ : ∃ x, INI[m]? = some x := ⟨_, List.getElem?_eq_getElem hlm⟩
          obtain ⟨g, off, rfl, hg, hcell⟩ := (R1.out.on (K1.out.trans kT)).at hx
          have q0 : wr.cell? ⟨g, off + m * 2, none⟩ = _ := hcell 0 _ rfl
          have q1 : wr.cell? ⟨g, off + m * 2 + 1, none⟩ = _ := hcell 1 _ rfl
          obtain ⟨gb, ob, rfl, hgb, hcb⟩ := (HL.out.on kT).at HX.out
          have qb : wr.cell? ⟨gb, ob + n, none⟩ = some (.int .u8 (b.toNat : Int)) := by have := hcb 0 _ rfl; rwa [Nat.mul_one, Nat.add_zero] at this
          have hd : Hid (INI.drop m = x :: INI.drop (m + 1)) := drop_at hx
          have bm0 : (0 : Int) ≤ (m : Int) := by omega
          have bm1 : (m : Int) < (INI.length : Int) := by omega
          have bn0 : (0 : Int) ≤ (n : Int) := by omega
          have bn1 : (n : Int) < (LT.length : Int) := by omega
          cases he : (x.l == (b.toNat : Int)) with
          | true =>
            have HJ : Hid (VAL = valFrom b (INI.drop (m + 1)) x.v) := by
              show VAL = _
              rw [HV.out, hd.out]
              unfold valFrom
              rw [List.foldl_cons, he]; rfl
            clear HV hd hcell hcb hx
            go_wp2
            go_quiet (fail)
            go_wp2
            go_roundg (INI.length - (m + 1))
            case measure => omega
            case rel => exact ⟨m + 1, x.v, by omega, rfl, rfl, by go_num, HV2.out.drewN _, HJ⟩
          | false =>
            have HJ : Hid (VAL = valFrom b (INI.drop (m + 1)) vv) := by
              show VAL = _
              rw [HV.out, hd.out]
              unfold valFrom
              rw [List.foldl_cons, he]; rfl
            clear HV hd hcell hcb hx
            go_wp2
            go_quiet (fail)
            go_wp2
            go_roundg (INI.length - (m + 1))
            case measure => omega
            case rel => exact ⟨m + 1, vv, by omega, rfl, rfl, by go_num, HV2.out.drewN _, HJ⟩
        · obtain rfl : VAL = vv := by rw [HV.out, List.drop_of_length_le hgm]; rfl
          have hown := own_on HW.out HV2.out
          have blk : ∀ g, (Value.slice a n c).ownBlock = some g → w1.heap.size + 1 ≤ g := fun g hg => (hown.lt g hg).1
          have kA : ∀ T, On wr (wr.alloc T) := fun T => (On.refl wr).alloc T
          clear HV
          go_wp2_with (at_builtin; refine wpList_append_own _ rfl _ _ 24 rfl (w1.heap.size + 1) 2 j0 (.int .i64 0) 1 8 Tryz.underlying24 hj jz0 jz1 jz2 rfl (by decide) _ _ _ rfl (hown.alloc _) ⟨wr.heap.size, 0, none⟩ 1 1 (intC VAL) rfl rfl ?c1 ?c2 ?c3 ?c4 ?c5 ?_)
          case c1 => exact news_at wr _ _
          case c2 => exact one_int _
          case c3 => unfold maxLen; omega
          case c4 => omega
          case c5 => simp only [World.size_alloc]; omega
          intro v' w4 hown4 hg4 _
          obtain ⟨a5, c5, rfl⟩ := own_slice hown4
          have PB4 : Bk w4 w1.heap.size _ := (PBr.on (kA _)).grown hg4 (Nat.lt_succ_self _) blk
          have O4 : Hid (On w1 w4) := (kT.trans (kA _)).grown hg4 (fun g hg => Nat.le_of_succ_le (blk g hg))
          have W4 : Hid (w4.ownsRow (w1.heap.size + 1) 2 1 (.slice a5 (n + 1) c5) (n + 1) ((iniVals (LT.take (n + 1)) INI).flatMap intC)) := by
            show World.ownsRow _ _ _ _ _ _ _
            rw [← HT.out, List.flatMap_append]
            exact hown4
          have r1 := PB4.at (i := 1) rfl
          have rf := fun j => PB4.fr j
          clear hown4 hg4 hown
          go_wp2
          go_roundg (LT.length - (n + 1))
          case measure => omega
          case rel => exact ⟨n + 1, a5, c5, by omega, rfl, by go_num, O4.out.setNew (Nat.le_refl _) _, Bk.puts [.slice a5 (n + 1) c5] w4 [.slice al LT.length cl, .slice a n c, .slice none 0 0] 1 PB4, own_set W4.out (Nat.lt_succ_self _) _ _⟩
    · obtain rfl : n = LT.length := by omega
      rw [List.take_length] at hown
      have HI : Hid (V.ownsRow (w1.heap.size + 1) 2 1 (.slice a LT.length c) LT.length ((iniVals LT INI).flatMap intC)) := hown
      clear hown
      go_wp2
      clear p0
      go_loopg [7] THR.length (fun gg s7 wq => ∃ (n : Nat) (at3 : Option Addr) (ct3 : Nat), n ≤ THR.length ∧ gg = THR.length - n ∧ s7 = .int .i64 n ∧ Hid (On w1 wq) ∧ Bk wq w1.heap.size #[.slice al LT.length cl, .slice a LT.length c, .slice at3 n ct3] ∧ Hid (wq.ownsRow (w1.heap.size + 1) 2 1 (.slice a LT.length c) LT.length ((iniVals LT INI).flatMap intC)) ∧ Hid (Own2 insC 9 117 107 wq (w1.heap.size + 1) (.slice at3 n ct3) ((THR.take n).map (rplRow LT))))
      case atStart => exact ⟨0, none, 0, Nat.zero_le _, rfl, rfl, HO, PB, HI, Own2.nil _ _ _ _ _ _⟩
      case round =>
        clear HI PB HO pl hge hn hk
        obtain ⟨n, at3, ct3, hn, hk, rfl, HO, PB, HI, HW⟩ := hrel
        obtain ⟨V2, hV2⟩ : ∃ V, V = wr := ⟨_, rfl⟩
        subst hV2
        have TB := TB1.on HO.out
        have t2 := TB.at (i := 2) rfl
        have tl := TB.lt
        have pl := PB.lt
        rcases Nat.lt_or_ge n THR.length with hlt | hge
        · obtain ⟨x, hx⟩ : ∃ x, THR[n]? = some x := ⟨_, List.getElem?_eq_getElem hlt⟩
          have hx6 := HB.out x (List.mem_of_getElem? hx)
          have HX : Hid (THR[n]? = some x) := hx
          have HT : Hid ((THR.take n).map (rplRow LT) ++ [rplRow LT x] = (THR.take (n + 1)).map (rplRow LT)) := by
            show _ = _
            rw [List.take_add_one, hx]
            simp
          clear hx
          go_wp2
          clear t2 TB tl
          go_loopg [8, 9] x.length (fun gg s8 s9 wq => ∃ m : Nat, m ≤ x.length ∧ gg = x.length - m ∧ s9 = .int .i64 m ∧ Hid (On V2 wq) ∧ wq.ownsRow V2.heap.size 107 9 s8 m ((rplRow LT (x.take m)).flatMap insC))
          case atStart => exact ⟨0, Nat.zero_le _, rfl, rfl, On.refl _, World.ownsRow_nil _ _ _ _⟩
          case round =>
            obtain ⟨m, hm, hkm, rfl, HV3, hown⟩ := hrel
            have kT : On w1 wr := HO.out.trans HV3.out
            have TB := TB1.on kT
            have t2 := TB.at (i := 2) rfl
            have tl := TB.lt
            have PBr := PB.on HV3.out
            have p0r := PBr.at (i := 0) rfl
            have p1r := PBr.at (i := 1) rfl
            have p2r := PBr.at (i := 2) rfl
            have pfr := fun i => PBr.fr i
            have plr := PBr.lt
            obtain ⟨g, off, rfl, hg, ax, cx, v0, hxm, rx⟩ := (R2.out.on (K1.out.trans kT)).row HX.out
            rcases Nat.lt_or_ge m x.length with hlm | hgm
            · obtain ⟨y, hy⟩ : ∃ y, x[m]? = some y := ⟨_, List.getElem?_eq_getElem hlm⟩
              obtain ⟨g2, off2, rfl, hg2, hcell⟩ := rx.at hy
              have q0 : wr.cell? ⟨g2, off2 + m * 9, none⟩ = _ := hcell 0 _ rfl
              have q1 : wr.cell? ⟨g2, off2 + m * 9 + 1, none⟩ = _ := hcell 1 _ rfl
              have q2 : wr.cell? ⟨g2, off2 + m * 9 + 2, none⟩ = _ := hcell 2 _ rfl
              have q3 : wr.cell? ⟨g2, off2 + m * 9 + 3, none⟩ = _ := hcell 3 _ rfl
              have q4 : wr.cell? ⟨g2, off2 + m * 9 + 4, none⟩ = _ := hcell 4 _ rfl
              have q5 : wr.cell? ⟨g2, off2 + m * 9 + 5, none⟩ = _ := hcell 5 _ rfl
              have q6 : wr.cell? ⟨g2, off2 + m * 9 + 6, none⟩ = _ := hcell 6 _ rfl
              have q7 : wr.cell? ⟨g2, off2 + m * 9 + 7, none⟩ = _ := hcell 7 _ rfl
              have q8 : wr.cell? ⟨g2, off2 + m * 9 + 8, none⟩ = _ := hcell 8 _ rfl
              have hsv2 := HV3.out.size
              have hblk : ∀ g, u8.ownBlock = some g → V2.heap.size ≤ g := fun g hg => (hown.lt g hg).1
              have HS : Hid (rplRow LT (x.take m) ++ [rplIns LT y] = rplRow LT (x.take (m + 1))) := by
                show _ = _
                unfold rplRow
                rw [List.take_add_one, hy]
                simp
              clear hcell hy rx
              cases h0 : (y.l == 0) with
              | true =>
                have e1 : rplIns LT y = y := by unfold rplIns; rw [h0]; rfl
                rw [e1] at HS
                have h0' : (y.l != 0) = false := by simp [bne, h0]
                clear h0
                go_wp2_with (at_builtin; refine wpList_append_own _ rfl _ _ 117 rfl V2.heap.size 107 i1 zIns 9 72 Tryz.underlying117 hi1 y0 y1 y2 rfl (by decide) _ _ _ rfl ((hown.alloc _).alloc _) ⟨wr.heap.size + 1, 0, none⟩ 1 1 (insC y) rfl rfl ?c1 ?c2 ?c3 ?c4 ?c5 ?_)
                case c1 => exact news_two wr _ _ _
                case c2 => exact one_ins y
                case c3 => unfold maxLen; omega
                case c4 => omega
                case c5 => simp only [World.size_alloc]; omega
                intro v' w4 hown4 hg4 _
                have O4 : Hid (On V2 w4) := ((HV3.out.alloc _).alloc _).grown hg4 hblk
                have W4 : Hid (w4.ownsRow V2.heap.size 107 9 v' (m + 1) ((rplRow LT (x.take (m + 1))).flatMap insC)) := by
                  show World.ownsRow _ _ _ _ _ _ _
                  rw [← HS.out, List.flatMap_append]
                  exact hown4
                clear hown4 hg4
                go_wp2
                go_roundg (x.length - (m + 1))
                case measure => omega
                case rel => exact ⟨m + 1, by omega, rfl, by go_num, O4, W4.out⟩
              | false =>
                have e1 : rplIns LT y = ⟨y.k, y.r, plR LT y.l, y.a, y.o, y.b, y.n⟩ := by unfold rplIns; rw [h0]; rfl
                rw [e1] at HS
                have h0' : (y.l != 0) = true := by simp [bne, h0]
                have hPl := fun W (k : On w1 W) => rplace_is LT y.l al a at3 cl LT.length c n ct3 W (HL.out.on k)
                generalize plR LT y.l = pq at *
                have kX : ∀ T, On wr (wr.alloc T) := fun T => (On.refl wr).alloc T
                have bX : ∀ cs T, Bk (wr.alloc (.cells cs T)) wr.heap.size cs := fun cs T => Bk.new wr cs T
                clear h0
                go_wp2_with fail
                refine (hPl _ (kT.trans (kX _))).mono ?_
                rintro e w2 ⟨rfl, k2⟩
                have B2 := (bX _ _).on k2
                have k12 : On wr w2 := (kX _).trans k2
                have hown2 := own_on hown k12
                have s2 := k12.size
                have b2l := B2.lt
                have z0 := B2.at (i := 0) rfl
                have z1 := B2.at (i := 1) rfl
                have z2 := B2.at (i := 2) rfl
                have z3 := B2.at (i := 3) rfl
                have z4 := B2.at (i := 4) rfl
                have z5 := B2.at (i := 5) rfl
                have z6 := B2.at (i := 6) rfl
                have z7 := B2.at (i := 7) rfl
                have z8 := B2.at (i := 8) rfl
                have zf := fun j => B2.fr j
                have hown3 : (w2.setCell ⟨wr.heap.size, 2, none⟩ (.int .i64 pq)).ownsRow V2.heap.size 107 9 u8 m ((rplRow LT (x.take m)).flatMap insC) := own_ne_wa2 hown2 ((Wa.refl wr.heap.size w2).setAt 2 _) (fun b hb => by have := (hown.lt b hb).2; omega)
                have O3 : On V2 (w2.setCell ⟨wr.heap.size, 2, none⟩ (.int .i64 pq)) := (HV3.out.trans k12).setNew hsv2 _
                have ws : (w2.setCell ⟨wr.heap.size, 2, none⟩ (.int .i64 pq)).heap.size = w2.heap.size := size_set _ _ _
                clear hPl k2 kX bX hown2
                go_wp2_with (at_builtin; refine wpList_append_own _ rfl _ _ 117 rfl V2.heap.size 107 i1 zIns 9 72 Tryz.underlying117 hi1 y0 y1 y2 rfl (by decide) _ _ _ rfl (hown3.alloc _) ⟨w2.heap.size, 0, none⟩ 1 1 (insC ⟨y.k, y.r, pq, y.a, y.o, y.b, y.n⟩) rfl rfl ?c1 ?c2 ?c3 ?c4 ?c5 ?_)
                case c1 => have := news_at (w2.setCell ⟨wr.heap.size, 2, none⟩ (.int .i64 pq)) (insC ⟨y.k, y.r, pq, y.a, y.o, y.b, y.n⟩).toArray 107; rw [ws] at this; exact this
                case c2 => exact one_ins _
                case c3 => unfold maxLen; omega
                case c4 => omega
                case c5 => simp only [World.size_alloc, ws]; omega
                intro v' w4 hown4 hg4 _
                have O4 : Hid (On V2 w4) := (O3.alloc _).grown hg4 hblk
                have W4 : Hid (w4.ownsRow V2.heap.size 107 9 v' (m + 1) ((rplRow LT (x.take (m + 1))).flatMap insC)) := by
                  show World.ownsRow _ _ _ _ _ _ _
                  rw [← HS.out, List.flatMap_append]
                  exact hown4
                clear hown4 hg4
                go_wp2
                go_roundg (x.length - (m + 1))
                case measure => omega
                case rel => exact ⟨m + 1, by omega, rfl, by go_num, O4, W4.out⟩
            · obtain rfl : m = x.length := by omega
              rw [List.take_length] at hown
              obtain ⟨ar, cr, rfl⟩ := own_slice hown
              have hrl : (rplRow LT x).length = x.length := by unfold rplRow; simp
              have kA : ∀ T, On wr (wr.alloc T) := fun T => (On.refl wr).alloc T
              obtain ⟨vs, hvl, hov, hin⟩ := Own2.on HW.out HV3.out
              have hvn : ((THR.take n).map (rplRow LT)).length = n := by simp; omega
              rw [hvn] at hov hvl
              have blk : ∀ g, (Value.slice at3 n ct3).ownBlock = some g → w1.heap.size + 1 ≤ g := fun g hg => (hov.lt g hg).1
              have hov2 := fun T => own_on hov (kA T)
              clear rx
              go_wp2_with (at_builtin; refine wpList_append_own _ rfl _ _ 25 rfl (w1.heap.size + 1) 117 i0 (.slice none 0 0) 1 24 Tryz.underlying25 hi hz0 hz1 hz2 rfl (by decide) _ _ _ rfl (hov2 _) ⟨wr.heap.size, 0, none⟩ 1 1 [.slice ar x.length cr] rfl rfl ?c1 ?c2 ?c3 ?c4 ?c5 ?_)
              case c1 => exact news_at wr _ _
              case c2 => exact one_slice _ _ _
              case c3 => unfold maxLen; omega
              case c4 => omega
              case c5 => simp only [World.size_alloc]; omega
              intro v' w4 hown4 hg4 _
              obtain ⟨a5, c5, rfl⟩ := own_slice hown4
              have PB4 : Bk w4 w1.heap.size _ := (PBr.on (kA _)).grown hg4 (Nat.lt_succ_self _) blk
              have O4 : Hid (On w1 w4) := (kT.trans (kA _)).grown hg4 (fun g hg => Nat.le_of_succ_le (blk g hg))
              have I4 : Hid _ := own_far (own_on (own_on HI.out HV3.out) (kA _)) (hov2 _) ne8 hg4
              have W4 := Own2.snoc (C := insC) (k := 9) (L := rplRow LT x) (hvl.trans hvn.symm) (by rw [hvn]; exact hov2 _) (fun j u L hu hL => own_on (hin j u L hu hL) (kA _)) ne_thr hg4 (by rw [hvn]; exact hown4) (by rw [hrl]; exact own_mono (own_on hown (kA _)) (by omega))
              rw [HT.out] at W4
              have H4 : Hid _ := W4
              have r2 := PB4.at (i := 2) rfl
              have rf := fun j => PB4.fr j
              clear W4 hown4 hg4 hov hov2 hin hown
              go_wp2
              go_roundg (THR.length - (n + 1))
              case measure => omega
              case rel => exact ⟨n + 1, a5, c5, by omega, rfl, by go_num, O4.out.setNew (Nat.le_refl _) _, Bk.puts [.slice a5 (n + 1) c5] w4 [.slice al LT.length cl, .slice a LT.length c, .slice at3 n ct3] 2 PB4, own_set I4.out (Nat.lt_succ_self _) _ _, Own2.set H4.out (Nat.lt_succ_self _) _ _⟩
        · obtain rfl : n = THR.length := by omega
          have H2 := HW.out
          rw [List.take_length] at H2
          have KO : On w V2 := K1.out.trans HO.out
          have RW : Hid (Own2 insC 9 117 107 V2 (w1.heap.size + 1) (.slice at3 THR.length ct3) (THR.map (rplRow LT))) := H2
          have q0 := PB.at (i := 0) rfl
          have q1 := PB.at (i := 1) rfl
          have q2 := PB.at (i := 2) rfl
          have ZB := ZB1.on HO.out
          have z0 := ZB.at (i := 0) rfl
          have z1 := ZB.at (i := 1) rfl
          have z2 := ZB.at (i := 2) rfl
          have zf := fun i => ZB.fr i
          have hne : w.heap.size + 1 < w1.heap.size + 1 := by omega
          have hil : (iniVals LT INI).length = LT.length := by unfold iniVals; simp
          clear H2 HW
          go_wp2
          refine bodyPost_ret (v := .agg #[.slice al LT.length cl, .slice a LT.length c, .slice at3 THR.length ct3]) ?_ rfl ⟨_, rfl, ?_, ?_⟩
          · rw [results_cell rfl]
            go_simp
          · have hput : ∀ {base : Nat} {k n : Nat} {e : TypeId} {v : Value} {xs : List Value} (W : World) (N : Nat) (ps : List Value) (o : Nat), (N < w.heap.size ∨ ps = []) → w.heap.size ≤ base → W.ownsRow base e k v n xs → (putCells W N o ps).ownsRow base e k v n xs := by
              intro base k n e v xs W N ps o hN hb hown
              rcases hN with h | rfl
              · exact own_puts ps W o hown (by omega)
              · exact hown
            have hput2 : ∀ {base : Nat} {v : Value} {LL : List (List InsT)} (W : World) (N : Nat) (ps : List Value) (o : Nat), (N < w.heap.size ∨ ps = []) → w.heap.size ≤ base → Own2 insC 9 117 107 W base v LL → Own2 insC 9 117 107 (putCells W N o ps) base v LL := by
              intro base v LL W N ps o hN hb hown
              rcases hN with h | rfl
              · exact Own2.puts ps W o hown (by omega)
              · exact hown
            intro N ps o hN
            refine ⟨al, cl, a, c, at3, ct3, by rw [hil, List.length_map], ?_, ?_, ?_⟩
            · exact rd_bytes (hput _ N ps o hN (by omega) (own_puts [.slice al LT.length cl, .slice a LT.length c, .slice at3 THR.length ct3] V2 0 (own_on HLO.out HO.out) (Nat.lt_succ_self _)))
            · rw [hil]
              refine (show Rd intC 1 _ (.slice a (iniVals LT INI).length c) (iniVals LT INI) from ?_) |> fun h => by rw [hil] at h; exact h
              refine Rd.own (C := intC) (k := 1) (fun _ => rfl) (base := w1.heap.size + 1) (e := 2) ?_
              rw [hil]
              exact hput _ N ps o hN (by omega) (own_puts [.slice al LT.length cl, .slice a LT.length c, .slice at3 THR.length ct3] V2 0 HI.out hne)
            · rw [List.length_map]
              exact Own2.rd (fun _ => rfl) (hput2 _ N ps o hN (by omega) (Own2.puts [.slice al LT.length cl, .slice a LT.length c, .slice at3 THR.length ct3] V2 0 RW.out hne))
          · repeat' (first | with_reducible refine On.setNew ?_ (by omega) _ | with_reducible exact KO)
end Go.Proofs.YtplihlmejnohnaaGreatDoor

namespace Go.Proofs.YtplihlmejnohnaaGreatDoor
open Go.RowKit

theorem begTo_len (LT : List UInt8) : ∀ (L : List InitT) (N : List Int), (begTo LT L N).length = N.length
  | [], _ => rfl
  | _ :: L, _ => (begTo_len LT L _).trans (List.length_set ..)
theorem begP_len (LT : List UInt8) (L : List InitT) : (begP LT L).length = LT.length := (begTo_len LT L _).trans (by simp)
theorem flat_i64 : ∀ L : List Int, L.flatMap intC = L.map i64V
  | [] => rfl
  | i :: L => by rw [List.flatMap_cons, flat_i64 L]; rfl
theorem rd_i64 {w : World} {base n : Nat} {e : TypeId} {a : Option Addr} {c : Nat} {L : List Int} (hn : L.length = n) (h : w.ownsRow base e 1 (.slice a n c) n (L.map i64V)) : Rd intC 1 w (.slice a L.length c) L := by
  subst hn
  refine Rd.own (C := intC) (k := 1) (fun _ => rfl) (base := base) (e := e) ?_
  rw [flat_i64]
  exact h
set_option maxHeartbeats 8000000 in
set_option maxRecDepth 8000 in
theorem compile_is (t : TestT) (LT : List UInt8) (hLT : lettersN (locsN t) = LT) (v : Value) (w : World) (lw : Lw w) (hd : Db w) (h : TestRd w v t) (hc : checkT t = 0) (h26 : LT.length ≤ 26) (hpl : ∀ x ∈ t.ini, ∃ k : Nat, k < LT.length ∧ plc LT x.l = (k : Int))
    (hl : ∀ L ∈ t.thr, L.length ≤ 1000000 ∧ ∀ x ∈ L, hasLocB x.k = true → 0 < LT.length) (h4 : t.thr.length ≤ 1000) :
    Calls Tryz.prog 56 #[v] w fun e w' => ∃ pv, e = .returned (.tuple #[pv, .int .i64 0]) ∧ ProgFl w' pv LT (begP LT t.ini) (t.thr.map (placedP LT)) ∧ On w w' := by
  obtain ⟨i0, hi0, hz0, hz1, hz2⟩ := info_parts infoThr
  have hC := fun W (k : On w W) => check_is t v W (lw.on k) (h.on k)
  have hO := fun W (k : On w W) => locs_is t v W (hd.on k) (h.on k)
  rw [hc] at hC
  rw [hLT] at hO
  obtain ⟨a1, c1, a2, c2, a3, c3, rfl, hnm, r1, r2, r3⟩ := h.ex
  have R1 : Hid (Rd iniC 2 w (.slice a1 t.ini.length c1) t.ini) := r1
  have R2 : Hid (Rd2 insC 9 w (.slice a2 t.thr.length c2) t.thr) := r2
  have HL : Hid (∀ L ∈ t.thr, L.length ≤ 1000000 ∧ ∀ x ∈ L, hasLocB x.k = true → 0 < LT.length) := hl
  clear h r1 r2 r3 hnm hl lw hd hc hLT
  have hB := fun al cl W (k : On w W) (hl : Rd byteC 1 W (.slice al LT.length cl) LT) => begs_is LT t.ini al a1 cl c1 W hl (R1.out.on k) h26 hpl
  have hbl : (begP LT t.ini).length = LT.length := begP_len LT t.ini
  have k0 : ∀ A B, On w ((w.alloc A).alloc B) := fun A B => ((On.refl w).alloc A).alloc B
  have bt : ∀ cs T B, Bk ((w.alloc (.cells cs T)).alloc B) w.heap.size cs := fun cs T B => (Bk.new w cs T).alloc B
  have br : ∀ A cs T, Bk ((w.alloc A).alloc (.cells cs T)) (w.heap.size + 1) cs := fun A cs T => by have := Bk.new (w.alloc A) cs T; rwa [World.size_alloc] at this
  generalize t.name = nm at *
  generalize t.cond.k = kk at *
  generalize t.cond.any.length = m3 at *
  generalize t.thr = TT at *
  generalize begP LT t.ini = IN at *
  generalize t.ini.length = m1 at *
  go_enter Tryz.func56, Tryz.ntmps56
  go_wp2_with fail
  refine (hC _ (k0 _ _)).mono ?_
  rintro e w1 ⟨rfl, k1⟩
  have T1 := (bt _ _ _).on k1
  have Z1 := (br _ _ _).on k1
  have K1 : Hid (On w w1) := (k0 _ _).trans k1
  have x0 := T1.at (i := 0) rfl
  have x1 := T1.at (i := 1) rfl
  have x2 := T1.at (i := 2) rfl
  have x3 := T1.at (i := 3) rfl
  have x4 := T1.at (i := 4) rfl
  have xl := T1.lt
  clear hC k1 bt br k0
  go_wp2_with fail
  refine (hO _ K1.out).mono ?_
  rintro e w2 ⟨al, cl, rfl, ho, k2⟩
  have T2 := T1.on k2
  have Z2 := Z1.on k2
  have K2 : Hid (On w w2) := K1.out.trans k2
  have B2 : Hid (Rd byteC 1 w2 (.slice al LT.length cl) LT) := rd_bytes ho
  have LO2 : Hid (w2.ownsRow w1.heap.size 5 1 (.slice al LT.length cl) LT.length (LT.map byteV)) := ho
  have hw1 : w.heap.size + 1 < w1.heap.size := Z1.lt
  have kw12 := k2.size
  clear hO k2 ho K1 T1 Z1 x0 x1 x2 x3 x4 xl
  have x1 := T2.at (i := 1) rfl
  have xl := T2.lt
  go_wp2_with fail
  refine (hB al cl w2 K2.out B2.out).mono ?_
  rintro e w3 ⟨ai, ci, rfl, hi3, k3⟩
  have LO3 : Hid (w3.ownsRow w1.heap.size 5 1 (.slice al LT.length cl) LT.length (LT.map byteV)) := own_on LO2.out k3
  have IO3 : Hid (w3.ownsRow w2.heap.size 2 1 (.slice ai LT.length ci) LT.length (IN.map i64V)) := hi3
  clear hi3 LO2
  have T3 := T2.on k3
  have Z3 := Z2.on k3
  have K3 : Hid (On w w3) := K2.out.trans k3
  have B3 : Hid (Rd byteC 1 w3 (.slice al LT.length cl) LT) := B2.out.on k3
  clear hB k3 B2 K2 T2 Z2 x1 xl
  have x2 := T3.at (i := 2) rfl
  have xl := T3.lt
  have zl := Z3.lt
  have hPn : ∀ cs T, Bk (w3.alloc (.cells cs T)) w3.heap.size cs := fun cs T => Bk.new w3 cs T
  go_wp2
  clear x2
  go_loopg [26] TT.length (fun gg s26 wq => ∃ (n : Nat) (a : Option Addr) (c : Nat), n ≤ TT.length ∧ gg = TT.length - n ∧ s26 = .int .i64 n ∧ Hid (On w3 wq) ∧ Bk wq w3.heap.size #[.slice al LT.length cl, .slice ai LT.length ci, .slice a n c] ∧ Hid (Own2 insC 9 117 107 wq (w3.heap.size + 1) (.slice a n c) ((TT.take n).map (placedP LT))))
  case atStart => exact ⟨0, none, 0, Nat.zero_le _, rfl, rfl, (On.refl w3).alloc _, hPn _ _, Own2.nil _ _ _ _ _ _⟩
  case round =>
    clear hPn
    obtain ⟨n, a, c, hn, hk, rfl, HO, PB, HW⟩ := hrel
    have pl := PB.lt
    rcases Nat.lt_or_ge n TT.length with hlt | hge
    · obtain ⟨x, hx⟩ : ∃ x, TT[n]? = some x := ⟨_, List.getElem?_eq_getElem hlt⟩
      obtain ⟨g, off, rfl, hg, ax, cx, v0, hxm, rx⟩ := (R2.out.on (K3.out.trans HO.out)).row hx
      obtain ⟨hx6, hxl⟩ := HL.out x (List.mem_of_getElem? hx)
      have hP := placed_is LT x ax cx al cl wr.drew (rx.on (On.refl wr).drew) (B3.out.on (HO.out.drew)) hx6 hxl
      have HX : Hid ((TT.take n).map (placedP LT) ++ [placedP LT x] = (TT.take (n + 1)).map (placedP LT)) := by
        show _ = _
        rw [List.take_add_one, hx]
        simp
      have hS : ∀ W, On wr.drew W → W.cell? ⟨w3.heap.size, 2, none⟩ = some (.slice a n c) := fun W k => (PB.on (show On wr W from (On.refl wr).drew.trans k)).at (i := 2) rfl
      have hS0 : wr.cell? ⟨w3.heap.size, 2, none⟩ = some (.slice a n c) := PB.at (i := 2) rfl
      have hpx : (placedP LT x).length = x.length := by unfold placedP; simp
      clear hx rx
      go_wp2
      clear v0
      refine region_fin (fun W => W.cell? ⟨w3.heap.size, 2, none⟩ = some (.slice a n c)) 8 9 (by kernel_rfl) rfl ?_
      refine fin_take 0 (v := ?_) rfl (by kernel_rfl) (by kernel_rfl) (by kernel_rfl) (by kernel_rfl) (fun _ _ _ h => h) rfl ?_ (hS _ (On.refl _)) ?_
      rotate_left
      · intro W hW
        go_simp
        (try with_reducible rfl)
      simp only [Act.put, List.setIfInBounds_toArray, List.set_cons_zero, List.set_cons_succ]
      refine fin_take 1 (v := ?_) rfl (by kernel_rfl) (by kernel_rfl) (by kernel_rfl) (by kernel_rfl) (fun _ _ _ h => h) rfl ?_ (hS _ (On.refl _)) ?_
      rotate_left
      · intro W hW
        go_simp
        (try with_reducible rfl)
      simp only [Act.put, List.setIfInBounds_toArray, List.set_cons_zero, List.set_cons_succ]
      refine fin_take 2 (v := ?_) rfl (by kernel_rfl) (by kernel_rfl) (by kernel_rfl) (by kernel_rfl) (fun _ _ _ h => h) rfl ?_ (hS _ (On.refl _)) ?_
      rotate_left
      · intro W hW
        go_simp
        (try with_reducible rfl)
      simp only [Act.put, List.setIfInBounds_toArray, List.set_cons_zero, List.set_cons_succ]
      refine fin_take 3 (v := ?_) rfl (by kernel_rfl) (by kernel_rfl) (by kernel_rfl) (by kernel_rfl) (fun _ _ _ h => h) rfl ?_ (hS _ (On.refl _)) ?_
      rotate_left
      · intro W hW
        go_simp
        (try with_reducible rfl)
      simp only [Act.put, List.setIfInBounds_toArray, List.set_cons_zero, List.set_cons_succ]
      refine fin_one 4 rfl rfl (by kernel_rfl) (fun K hK => ?_)
      go_simp
      refine hP.mono ?_
      rintro e w4 ⟨au, cu, rfl, hu, k4⟩
      have hS4 := hS w4 k4
      have hS5 := hS _ (k4.alloc (.cells #[.slice au x.length cu] 117))
      have k4' : On wr w4 := (On.refl wr).drew.trans k4
      refine hK.out _ _ (fun _ => hS4) ?_
      clear hK
      refine fin_one 5 rfl rfl (by kernel_rfl) (fun K hK => ?_)
      go_simp
      refine hK.out _ _ (fun _ => hS5) ?_
      clear hK
      obtain ⟨vs, hvl, hov, hin⟩ := HW.out
      have hvn : ((TT.take n).map (placedP LT)).length = n := by simp; omega
      rw [hvn] at hov hvl
      have own4 := own_on hov (k4'.alloc (.cells #[.slice au x.length cu] 117))
      refine fin_one 6 rfl rfl (by kernel_rfl) (fun K hK => ?_)
      refine wp_append_own _ (.tmp 31) (.tmp 35) 25 rfl (w3.heap.size + 1) 117 i0 (.slice none 0 0) 1 24 Tryz.underlying25 hi0 hz0 hz1 hz2 rfl (by decide) (.slice a n c) n vs rfl own4 ⟨w4.heap.size, 0, none⟩ 1 1 [.slice au x.length cu] rfl rfl (news_at w4 _ _) (one_slice _ _ _) (by unfold maxLen; omega) (by omega) (by simp only [World.size_alloc]; have := k4'.size; omega) ?_
      intro v' w5 hown5 hg5 _
      obtain ⟨a', c', rfl⟩ := own_slice hown5
      have blk : ∀ b, (Value.slice a n c).ownBlock = some b → w3.heap.size + 1 ≤ b := fun b hb => (hov.lt b hb).1
      have PB5 : Bk w5 w3.heap.size _ := ((PB.on k4').alloc (.cells #[.slice au x.length cu] 117)).grown hg5 (Nat.lt_succ_self _) blk
      have O5 : On w3 w5 := ((HO.out.trans k4').alloc (.cells #[.slice au x.length cu] 117)).grown hg5 (fun b hb => Nat.le_of_succ_le (blk b hb))
      have hS6 := PB5.at (i := 2) rfl
      have F6 := fun i => PB5.fr i
      have hu1 : (w4.alloc (.cells #[.slice au x.length cu] 117)).ownsRow (w3.heap.size + 1) 107 9 (.slice au x.length cu) (placedP LT x).length ((placedP LT x).flatMap insC) := by
        rw [hpx]
        exact own_mono (own_on hu ((On.refl w4).alloc _)) pl
      have W5 := Own2.snoc (C := insC) (k := 9) (hvl.trans hvn.symm) (by rw [hvn]; exact own4) (fun i u L hiu hL => own_on (hin i u L hiu hL) (k4'.alloc (.cells #[.slice au x.length cu] 117))) ne_thr hg5 (by rw [hvn]; exact hown5) hu1
      rw [HX.out] at W5
      have HW5 : Hid _ := W5
      clear W5 hu1 own4 hown5 hov hin hg5 hu HX
      refine hK.out _ _ (fun _ => hS6) ?_
      simp only [Act.put, List.setIfInBounds_toArray, List.set_cons_zero, List.set_cons_succ]
      clear hK
      refine fin_take 7 (v := ?_) rfl (by kernel_rfl) (by kernel_rfl) (by kernel_rfl) (by kernel_rfl) (fun _ _ _ h => h) rfl ?_ hS6 ?_
      rotate_left
      · intro W hW
        go_simp
        (try with_reducible rfl)
      simp only [Act.put, List.setIfInBounds_toArray, List.set_cons_zero, List.set_cons_succ]
      refine fin_one 8 rfl rfl (by kernel_rfl) (fun K hK => ?_)
      go_simp
      refine hK.out _ _ (fun h => absurd rfl h) ?_
      refine fin_done (by kernel_rfl) (NoPanic.normal ?_)
      go_wp2
      go_roundg (TT.length - (n + 1))
      case measure => omega
      case rel => exact ⟨n + 1, a', c', by omega, rfl, by go_num, O5.setNew (Nat.le_refl _) _, Bk.puts [.slice a' (n + 1) c'] w5 [.slice al LT.length cl, .slice ai LT.length ci, .slice a n c] 2 PB5, Own2.set HW5.out (Nat.lt_succ_self _) 2 _⟩
    · obtain rfl : n = TT.length := by omega
      have H2 := HW.out
      rw [List.take_length] at H2
      have KO : On w wr := K3.out.trans HO.out
      have R : Hid (Own2 insC 9 117 107 wr (w3.heap.size + 1) (.slice a TT.length c) (TT.map (placedP LT))) := H2
      have hw3 : w.heap.size + 1 < w3.heap.size + 1 := by omega
      have y0 := PB.at (i := 0) rfl
      have y1 := PB.at (i := 1) rfl
      have y2 := PB.at (i := 2) rfl
      have ZB := Z3.on HO.out
      have z0 := ZB.at (i := 0) rfl
      have z1 := ZB.at (i := 1) rfl
      have z2 := ZB.at (i := 2) rfl
      have zf := fun i => ZB.fr i
      clear H2 HW
      go_wp2
      refine bodyPost_ret (v := .tuple #[.agg #[.slice al LT.length cl, .slice ai LT.length ci, .slice a TT.length c], .int .i64 0]) ?_ rfl ⟨_, rfl, ?_, ?_⟩
      · rw [results_cell_slot rfl]
        go_simp
      · refine ⟨al, cl, ai, ci, a, c, by rw [List.length_map, hbl], ?_, ?_, ?_⟩
        · exact rd_bytes (own_puts [.slice al LT.length cl, .slice ai LT.length ci, .slice a TT.length c] wr 0 (own_on LO3.out HO.out) hw1)
        · exact rd_i64 hbl (own_puts [.slice al LT.length cl, .slice ai LT.length ci, .slice a TT.length c] wr 0 (own_on IO3.out HO.out) (by omega))
        · rw [List.length_map]; exact (Own2.puts [.slice al LT.length cl, .slice ai LT.length ci, .slice a TT.length c] wr 0 R.out hw3).rd (fun _ => rfl)
      · repeat' (first | with_reducible refine On.setNew ?_ (by omega) _ | with_reducible exact KO)
end Go.Proofs.YtplihlmejnohnaaGreatDoor

namespace Go.Proofs.YtplihlmejnohnaaGreatDoor
open Go.RowKit

def fairL (l : Int) : Prop := l = 0 ∨ (97 ≤ l ∧ l ≤ 122)
theorem fair_loc {l : Int} (h : locOk l = true) : fairL l := by
  unfold locOk at h
  simp only [Bool.and_eq_true, decide_eq_true_eq] at h
  exact Or.inr h
theorem fair_zero {l : Int} (h : (l == 0) = true) : fairL l := Or.inl (by simpa using h)
theorem fair_ins (x : InsT) (h : insOk x = true) : fairL x.l := by
  unfold insOk at h
  split at h
  · simp only [Bool.and_eq_true] at h; exact fair_loc h.1.2
  · split at h
    · simp only [Bool.and_eq_true] at h; exact fair_loc h.2
    · split at h
      · simp only [Bool.and_eq_true] at h; exact fair_zero h.1.1.1.1.1.1.2
      · split at h
        · simp only [Bool.and_eq_true] at h; exact fair_loc h.1.1.2
        · split at h
          · simp only [Bool.and_eq_true] at h; exact fair_zero h.1.1.1.1
          · split at h
            · simp only [Bool.and_eq_true] at h; exact fair_zero h.1.1.1.1.2
            · cases h
theorem fair_atom (x : AtomT) (h : atomOk x = true) : fairL x.l := by
  unfold atomOk at h
  split at h
  · simp only [Bool.and_eq_true] at h; exact fair_loc h.2
  · simp only [Bool.and_eq_true] at h; exact fair_zero h.1.1.1
theorem fair_all (t : TestT) (h : testOk t = true) : ∀ l ∈ allLs t, fairL l := by
  unfold testOk at h
  simp only [Bool.and_eq_true] at h
  obtain ⟨⟨⟨_, hi⟩, ht⟩, hc⟩ := h
  intro l hl
  unfold allLs at hl
  rw [List.append_nil, List.mem_append, List.mem_append] at hl
  rcases hl with hl | hl | hl
  · obtain ⟨x, hx, rfl⟩ := List.mem_map.1 hl
    exact fair_loc (List.all_eq_true.1 hi x hx)
  · obtain ⟨L, hL, hl⟩ := List.mem_flatMap.1 hl
    obtain ⟨x, hx, rfl⟩ := List.mem_map.1 hl
    exact fair_ins x (List.all_eq_true.1 (List.all_eq_true.1 ht L hL) x hx)
  · obtain ⟨L, hL, hl⟩ := List.mem_flatMap.1 hl
    obtain ⟨x, hx, rfl⟩ := List.mem_map.1 hl
    unfold condOk at hc
    split at hc
    · have : t.cond.any.length = 0 := by simpa using hc
      have : t.cond.any = [] := List.eq_nil_of_length_eq_zero this
      rw [this] at hL
      cases hL
    · split at hc
      · simp only [Bool.and_eq_true] at hc
        have := List.all_eq_true.1 hc.2 L hL
        unfold rowOk at this
        simp only [Bool.and_eq_true] at this
        exact fair_atom x (List.all_eq_true.1 this.2 x hx)
      · cases hc
theorem mark_bits : ∀ (L : List Int) (f : Nat → Bool) (n : Nat), (∀ l ∈ L, fairL l) → (∀ i, i < 26 → f (97 + i) = n.testBit i) → ∀ i, i < 26 → markI L f (97 + i) = (L.foldl withL n).testBit i
  | [], _, _, _, h, i, hi => h i hi
  | l :: L, f, n, hf, h, i, hi => by
    rw [markI, List.foldl_cons, List.foldl_cons]
    refine mark_bits L (upd f (idxL l)) (withL n l) (fun x hx => hf x (List.mem_cons_of_mem _ hx)) (fun j hj => ?_) i hi
    rcases hf l (List.mem_cons_self ..) with rfl | ⟨h0, h1⟩
    · have e1 : withL n 0 = n := by unfold withL; rw [if_neg (by omega)]
      have e2 : upd f (idxL 0) (97 + j) = f (97 + j) := by
        unfold upd
        rw [if_neg]
        have : idxL 0 = 0 := by decide
        omega
      rw [e1, e2]
      exact h j hj
    · have e1 : withL n l = n ||| 2 ^ (l - 97).toNat := by unfold withL; rw [if_pos ⟨h0, h1⟩]
      have e2 : idxL l = l.toNat := by unfold idxL; omega
      rw [e1, e2, Nat.testBit_or, Nat.testBit_two_pow]
      unfold upd
      by_cases hj2 : 97 + j = l.toNat
      · rw [if_pos hj2, decide_eq_true (show (l - 97).toNat = j by omega), Bool.or_true]
      · rw [if_neg hj2, decide_eq_false (show ¬ (l - 97).toNat = j by omega), Bool.or_false]
        exact h j hj
theorem fold_map {α : Type} (f : α → Int) : ∀ (L : List α) (n : Nat), L.foldl (fun n x => withL n (f x)) n = (L.map f).foldl withL n
  | [], _ => rfl
  | _ :: L, _ => fold_map f L _
theorem fold_thr : ∀ (LL : List (List InsT)) (n : Nat), locThr n LL = (LL.flatMap insLs).foldl withL n
  | [], _ => rfl
  | L :: LL, n => by
    rw [locThr, List.foldl_cons, List.flatMap_cons, List.foldl_append]
    exact (fold_thr LL _).trans (by rw [locRow, fold_map InsT.l]; rfl)
theorem fold_any : ∀ (LL : List (List AtomT)) (n : Nat), locAny n LL = (LL.flatMap atmLs).foldl withL n
  | [], _ => rfl
  | L :: LL, n => by
    rw [locAny, List.foldl_cons, List.flatMap_cons, List.foldl_append]
    exact (fold_any LL _).trans (by rw [locAts, fold_map AtomT.l]; rfl)
theorem locs_fold (t : TestT) : locsN t = (allLs t).foldl withL 0 := by
  unfold locsN allLs
  rw [List.append_nil, List.foldl_append, List.foldl_append, fold_any, fold_thr, locIni, fold_map InitT.l]
/-- The document's letters are the program's. -/
theorem out_letters (t : TestT) (h : testOk t = true) : outTo (markI (allLs t) (fun _ => false)) 123 = lettersN (locsN t) := by
  have hm := mark_bits (allLs t) (fun _ => false) 0 (fair_all t h) (fun i _ => (Nat.zero_testBit i).symm)
  rw [← locs_fold] at hm
  unfold outTo lettersN
  show ((List.range 26).filter _).map _ = _
  congr 1
  apply List.filter_congr
  intro i hi
  exact hm i (by simpa using hi)
theorem of_locs3 (zs : List Int) (most : Nat) : (locsR (smallP zs most)).length ≤ 3 := by
  unfold locsR
  rw [out_letters _ (small_ok zs most)]
  have := cnt_hi (small_locs zs most)
  unfold cntN at this
  unfold lettersN
  rw [List.length_map]
  exact this
theorem locsR_low (t : TestT) : ∀ b ∈ locsR t, 97 ≤ b.toNat := by
  intro b hb
  unfold locsR outTo at hb
  obtain ⟨i, hi, rfl⟩ := List.mem_map.1 hb
  have := List.mem_range.1 (List.mem_filter.1 hi).1
  rw [UInt8.toNat_ofNat']
  omega
theorem locsR_no (t : TestT) : (32 : UInt8) ∉ locsR t := fun h => absurd (locsR_low t _ h) (by decide)
end Go.Proofs.YtplihlmejnohnaaGreatDoor

namespace Go.Proofs.YtplihlmejnohnaaGreatDoor
open Go.RowKit

theorem pl_from (l : Int) (c : UInt8) (h : (c.toNat : Int) = l) : ∀ (LT : List UInt8) (i : Nat), plFrom l i LT = if Lib.indexByte LT c == -1 then -1 else Lib.indexByte LT c + i
  | [], _ => rfl
  | b :: LT, i => by
    have ih := pl_from l c h LT (i + 1)
    have hg := Lib.indexByte_ge LT c
    have e : Lib.indexByte (b :: LT) c = if b == c then 0 else if Lib.indexByte LT c == -1 then -1 else Lib.indexByte LT c + 1 := rfl
    rw [e]
    unfold plFrom
    by_cases hb : b = c
    · have e1 : ((b.toNat : Int) == l) = true := by rw [hb]; simpa using h
      have e2 : (b == c) = true := by simpa using hb
      rw [e1, e2]
      simp
    · have h1 : ¬ (b.toNat : Int) = l := by
        intro hh
        apply hb
        apply UInt8.toNat_inj.1
        omega
      have e1 : ((b.toNat : Int) == l) = false := by simpa using h1
      have e2 : (b == c) = false := by simpa using hb
      rw [e1, e2, ih]
      by_cases hm : Lib.indexByte LT c = -1
      · simp [hm]
      · have h2 : ¬ (Lib.indexByte LT c + 1 = -1) := by omega
        simp [hm, h2]
        omega
theorem pl_same (LT : List UInt8) (l : Int) (h0 : 0 ≤ l) (h1 : l ≤ 255) : plc LT l = plR LT l := by
  unfold plc plR
  have hw : IntKind.u8.wrap l = l := by rw [IntKind.wrap_u8]; omega
  have hc : ((l.toNat.toUInt8).toNat : Int) = l := by
    rw [UInt8.toNat_ofNat']
    omega
  rw [hw, pl_from l _ hc LT 0]
  by_cases hm : Lib.indexByte LT l.toNat.toUInt8 = -1
  · simp [hm]
  · simp [hm]
theorem ins_kind (x : InsT) (h : insOk x = true) : (hasLocB x.k = true ∧ 97 ≤ x.l ∧ x.l ≤ 122) ∨ (hasLocB x.k = false ∧ x.l = 0) := by
  unfold insOk at h
  have hl : ∀ {l : Int}, locOk l = true → 97 ≤ l ∧ l ≤ 122 := fun h => by
    unfold locOk at h
    simpa only [Bool.and_eq_true, decide_eq_true_eq] using h
  split at h
  · rename_i hk
    have hk : x.k = 1 := by simpa using hk
    simp only [Bool.and_eq_true] at h
    exact Or.inl ⟨by unfold hasLocB; rw [hk]; rfl, hl h.1.2⟩
  · split at h
    · rename_i hk
      have hk : x.k = 2 := by simpa using hk
      simp only [Bool.and_eq_true] at h
      exact Or.inl ⟨by unfold hasLocB; rw [hk]; rfl, hl h.2⟩
    · split at h
      · rename_i hk
        have hk : x.k = 3 := by simpa using hk
        simp only [Bool.and_eq_true] at h
        exact Or.inr ⟨by unfold hasLocB; rw [hk]; rfl, by simpa using h.1.1.1.1.1.1.2⟩
      · split at h
        · rename_i hk
          have hk : x.k = 4 := by simpa using hk
          simp only [Bool.and_eq_true] at h
          exact Or.inl ⟨by unfold hasLocB; rw [hk]; rfl, hl h.1.1.2⟩
        · split at h
          · rename_i hk
            have hk : x.k = 5 := by simpa using hk
            simp only [Bool.and_eq_true] at h
            exact Or.inr ⟨by unfold hasLocB; rw [hk]; rfl, by simpa using h.1.1.1.1⟩
          · split at h
            · rename_i hk
              have hk : x.k = 6 := by simpa using hk
              simp only [Bool.and_eq_true] at h
              exact Or.inr ⟨by unfold hasLocB; rw [hk]; rfl, by simpa using h.1.1.1.1.2⟩
            · cases h
theorem row_same (LT : List UInt8) (L : List InsT) (h : L.all insOk = true) : placedP LT L = rplRow LT L := by
  unfold placedP rplRow
  apply List.map_congr_left
  intro x hx
  have hk := ins_kind x (List.all_eq_true.1 h x hx)
  unfold placeIns rplIns
  rcases hk with ⟨h1, h2, h3⟩ | ⟨h1, h2⟩
  · rw [h1, if_pos rfl, if_neg (by simp; omega), pl_same LT x.l (by omega) (by omega)]
  · rw [h1, if_neg (by decide), if_pos (by simpa using h2)]
/-- A letter of a row of letters. -/
theorem pl_at (LT : List UInt8) (l : Int) (hnd : LT.Nodup) (hm : ∃ b ∈ LT, (b.toNat : Int) = l) (h0 : 0 ≤ l) (h1 : l ≤ 255) : ∃ k : Nat, k < LT.length ∧ plc LT l = (k : Int) ∧ ∀ (j : Nat) (b : UInt8), LT[j]? = some b → (((b.toNat : Int) == l) = decide (j = k)) := by
  rw [pl_same LT l h0 h1]
  unfold plR
  have key : ∀ (LT : List UInt8) (i : Nat), LT.Nodup → (∃ b ∈ LT, (b.toNat : Int) = l) → ∃ k : Nat, k < LT.length ∧ plFrom l i LT = ((k + i : Nat) : Int) ∧ ∀ (j : Nat) (b : UInt8), LT[j]? = some b → (((b.toNat : Int) == l) = decide (j = k)) := by
    intro LT
    induction LT with
    | nil => intro i _ h; obtain ⟨b, hb, _⟩ := h; cases hb
    | cons c LT ih =>
      intro i hnd hm
      rw [List.nodup_cons] at hnd
      unfold plFrom
      by_cases hc : (c.toNat : Int) = l
      · refine ⟨0, by simp, by rw [if_pos (by simpa using hc), Nat.zero_add], fun j b hj => ?_⟩
        match j, hj with
        | 0, hj =>
          simp only [List.getElem?_cons_zero, Option.some.injEq] at hj
          subst hj
          simpa using hc
        | j + 1, hj =>
          simp only [List.getElem?_cons_succ] at hj
          have hbm := List.mem_of_getElem? hj
          have hne : ¬ (b.toNat : Int) = l := by
            intro hh
            apply hnd.1
            have : b = c := UInt8.toNat_inj.1 (by omega)
            rw [← this]
            exact hbm
          simp [hne]
      · obtain ⟨b, hb, hbl⟩ := hm
        have hb' : b ∈ LT := by
          rcases List.mem_cons.1 hb with h | h
          · exact absurd (h ▸ hbl) hc
          · exact h
        obtain ⟨k, hk, he, hall⟩ := ih (i + 1) hnd.2 ⟨b, hb', hbl⟩
        refine ⟨k + 1, by simp; omega, ?_, fun j b hj => ?_⟩
        · rw [if_neg (by simpa using hc), he]
          congr 1
          omega
        · match j, hj with
          | 0, hj =>
            simp only [List.getElem?_cons_zero, Option.some.injEq] at hj
            subst hj
            simpa using hc
          | j + 1, hj =>
            simp only [List.getElem?_cons_succ] at hj
            rw [hall j b hj]
            apply decide_eq_decide.2
            omega
  obtain ⟨k, h1, h2, h3⟩ := key LT 0 hnd hm
  exact ⟨k, h1, by rw [h2, Nat.add_zero], h3⟩
theorem letters_nodup (n : Nat) : (lettersN n).Nodup := by
  unfold lettersN
  rw [List.Nodup, List.pairwise_map]
  have hp : ((List.range 26).filter (fun i => n.testBit i)).Pairwise (· < ·) := List.Pairwise.filter _ List.pairwise_lt_range
  refine List.Pairwise.imp_of_mem ?_ hp
  intro a b ha hb hab he
  have ha' : a < 26 := by simpa using (List.mem_filter.1 ha).1
  have hb' : b < 26 := by simpa using (List.mem_filter.1 hb).1
  have := congrArg UInt8.toNat he
  rw [UInt8.toNat_ofNat', UInt8.toNat_ofNat'] at this
  omega
theorem fold_has (L : List Int) (n : Nat) (l : Int) (h : l ∈ L) (h0 : 97 ≤ l) (h1 : l ≤ 122) : (L.foldl withL n).testBit (l - 97).toNat = true := by
  have mono : ∀ (L : List Int) (n i : Nat), n.testBit i = true → (L.foldl withL n).testBit i = true := by
    intro L
    induction L with
    | nil => intro n i h; exact h
    | cons x L ih =>
      intro n i h
      rw [List.foldl_cons]
      refine ih _ i ?_
      unfold withL
      split
      · rw [Nat.testBit_or, h]; rfl
      · exact h
  induction L generalizing n with
  | nil => cases h
  | cons x L ih =>
    rw [List.foldl_cons]
    rcases List.mem_cons.1 h with rfl | h
    · refine mono L _ _ ?_
      unfold withL
      rw [if_pos ⟨h0, h1⟩, Nat.testBit_or, Nat.testBit_two_pow_self, Bool.or_true]
    · exact ih _ h
theorem mem_letters (t : TestT) (l : Int) (h : l ∈ allLs t) (h0 : 97 ≤ l) (h1 : l ≤ 122) : ∃ b ∈ lettersN (locsN t), (b.toNat : Int) = l := by
  have hb := fold_has (allLs t) 0 l h h0 h1
  rw [← locs_fold] at hb
  refine ⟨UInt8.ofNat (97 + (l - 97).toNat), ?_, ?_⟩
  · unfold lettersN
    exact List.mem_map.2 ⟨(l - 97).toNat, List.mem_filter.2 ⟨by simp; omega, hb⟩, rfl⟩
  · rw [UInt8.toNat_ofNat']
    omega
theorem ini_mem (t : TestT) (x : InitT) (h : x ∈ t.ini) : x.l ∈ allLs t := by
  unfold allLs
  exact List.mem_append_left _ (List.mem_map.2 ⟨x, h, rfl⟩)
theorem ini_letter (t : TestT) (ht : testOk t = true) (x : InitT) (h : x ∈ t.ini) : 97 ≤ x.l ∧ x.l ≤ 122 := by
  unfold testOk at ht
  simp only [Bool.and_eq_true] at ht
  have := List.all_eq_true.1 ht.1.1.2 x h
  unfold initOk locOk at this
  simpa only [Bool.and_eq_true, decide_eq_true_eq] using this
theorem ini_place (t : TestT) (ht : testOk t = true) (x : InitT) (h : x ∈ t.ini) : ∃ k : Nat, k < (lettersN (locsN t)).length ∧ plc (lettersN (locsN t)) x.l = (k : Int) ∧ ∀ (j : Nat) (b : UInt8), (lettersN (locsN t))[j]? = some b → (((b.toNat : Int) == x.l) = decide (j = k)) := by
  obtain ⟨h0, h1⟩ := ini_letter t ht x h
  exact pl_at _ x.l (letters_nodup _) (mem_letters t x.l (ini_mem t x h) h0 h1) (by omega) (by omega)
theorem beg_from (LT : List UInt8) : ∀ (L : List InitT) (N : List Int), N.length = LT.length →
    (∀ x ∈ L, ∃ k : Nat, k < LT.length ∧ plc LT x.l = (k : Int) ∧ ∀ (j : Nat) (b : UInt8), LT[j]? = some b → (((b.toNat : Int) == x.l) = decide (j = k))) →
    ∀ (j : Nat) (b : UInt8) (v : Int), LT[j]? = some b → N[j]? = some v → (begTo LT L N)[j]? = some (valFrom b L v)
  | [], _, _, _, _, _, _, _, hv => hv
  | x :: L, N, hN, hL, j, b, v, hb, hv => by
    obtain ⟨k, hk, he, hall⟩ := hL x (List.mem_cons_self ..)
    have hj : j < N.length := (List.getElem?_eq_some_iff.1 hv).1
    rw [begTo, List.foldl_cons, valFrom, List.foldl_cons]
    refine beg_from LT L _ (by rw [List.length_set]; exact hN) (fun y hy => hL y (List.mem_cons_of_mem _ hy)) j b _ hb ?_
    rw [he, Int.toNat_natCast, List.getElem?_set]
    have hd := hall j b hb
    have hd' : (x.l == (b.toNat : Int)) = decide (j = k) := by rw [← hd, Bool.eq_iff_iff]; simp; exact eq_comm
    rw [hd']
    by_cases hjk : j = k
    · subst hjk
      rw [if_pos rfl, if_pos hj]
      simp
    · rw [if_neg (fun h => hjk h.symm), hv]
      simp [hjk]
theorem beg_same (t : TestT) (ht : testOk t = true) : begP (lettersN (locsN t)) t.ini = iniVals (lettersN (locsN t)) t.ini := by
  apply List.ext_getElem?
  intro j
  unfold iniVals
  rw [List.getElem?_map]
  by_cases hj : j < (lettersN (locsN t)).length
  · rw [List.getElem?_eq_getElem hj]
    exact beg_from _ t.ini (List.replicate _ 0) (by simp) (ini_place t ht) j _ 0 (List.getElem?_eq_getElem hj) (by rw [List.getElem?_replicate]; simp; exact hj)
  · rw [List.getElem?_eq_none (by rw [begP_len]; omega), List.getElem?_eq_none (by omega)]
    rfl
end Go.Proofs.YtplihlmejnohnaaGreatDoor

namespace Go.Proofs.YtplihlmejnohnaaGreatDoor
open Go.RowKit

theorem ok_small (t : TestT) (h : checkT t = 0) : testOk t = true ∧ t.thr.length ≤ 4 ∧ (∀ L ∈ t.thr, L.length ≤ 10) ∧ sumL t.thr ≤ 24 := by
  unfold checkT at h
  cases ht : testOk t with
  | false => rw [ht] at h; simp at h
  | true =>
    rw [ht] at h
    cases hb : bigT t with
    | true => rw [hb] at h; simp at h
    | false =>
      unfold bigT thrBig at hb
      simp only [Bool.or_eq_false_iff, decide_eq_false_iff_not, List.any_eq_false, decide_eq_true_eq] at hb
      exact ⟨rfl, by omega, fun L hL => by have := hb.1.1.2.2.1 L hL; omega, by omega⟩
theorem letters_len (n : Nat) : (lettersN n).length ≤ 26 := by
  unfold lettersN
  rw [List.length_map]
  have := List.length_filter_le (fun i => n.testBit i) (List.range 26)
  simpa using this
theorem thr_mem (t : TestT) (L : List InsT) (x : InsT) (h : L ∈ t.thr) (hx : x ∈ L) : x.l ∈ allLs t := by
  unfold allLs
  exact List.mem_append_right _ (List.mem_append_left _ (List.mem_flatMap.2 ⟨L, h, List.mem_map.2 ⟨x, hx, rfl⟩⟩))
theorem thr_ok (t : TestT) (h : testOk t = true) (L : List InsT) (hL : L ∈ t.thr) : L.all insOk = true := by
  unfold testOk at h
  simp only [Bool.and_eq_true] at h
  exact List.all_eq_true.1 h.1.2 L hL
theorem has_letters (t : TestT) (h : testOk t = true) (L : List InsT) (hL : L ∈ t.thr) (x : InsT) (hx : x ∈ L) (hk : hasLocB x.k = true) : 0 < (lettersN (locsN t)).length := by
  rcases ins_kind x (List.all_eq_true.1 (thr_ok t h L hL) x hx) with ⟨_, h0, h1⟩ | ⟨h0, _⟩
  · obtain ⟨b, hb, _⟩ := mem_letters t x.l (thr_mem t L x hL hx) h0 h1
    exact List.length_pos_of_mem hb
  · rw [hk] at h0; cases h0
def ltOf (t : TestT) : List UInt8 := lettersN (locsN t)
def inOf (t : TestT) : List Int := begP (ltOf t) t.ini
def llOf (t : TestT) : List (List InsT) := t.thr.map (placedP (ltOf t))
theorem sum_map (f : List InsT → List InsT) (hf : ∀ L, (f L).length = L.length) : ∀ (LL : List (List InsT)) (n : Nat), (LL.map f).foldl (fun n L => n + L.length) n = LL.foldl (fun n L => n + L.length) n
  | [], _ => rfl
  | L :: LL, n => by rw [List.map_cons, List.foldl_cons, List.foldl_cons, hf]; exact sum_map f hf LL _
theorem sum_ll (t : TestT) : sumL (llOf t) = sumL t.thr := sum_map _ (fun L => by unfold placedP; simp) _ _
/-- Compile of a test that is small enough, as the program does it. -/
theorem comp_ok (t : TestT) (v : Value) (w : World) (lw : Lw w) (hd : Db w) (h : TestRd w v t) (hc : checkT t = 0) :
    Calls Tryz.prog 56 #[v] w fun e w' => ∃ pv, e = .returned (.tuple #[pv, .int .i64 0]) ∧ ProgFl w' pv (ltOf t) (inOf t) (llOf t) ∧ On w w' := by
  obtain ⟨h1, h2, h3, h4⟩ := ok_small t hc
  exact compile_is t (ltOf t) rfl v w lw hd h hc (letters_len _) (fun x hx => by obtain ⟨k, a, b, _⟩ := ini_place t h1 x hx; exact ⟨k, a, b⟩)
    (fun L hL => ⟨by have := h3 L hL; omega, fun x hx hk => has_letters t h1 L hL x hx hk⟩) (by omega)
end Go.Proofs.YtplihlmejnohnaaGreatDoor
