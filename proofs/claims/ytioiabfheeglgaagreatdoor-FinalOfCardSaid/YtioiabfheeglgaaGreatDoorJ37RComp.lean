/- The document's Locs for every test that lies in memory. -/
import Derived.Test.YtioiabfheeglgaaGreatDoorJ02RegFin
import Derived.Test.YtioiabfheeglgaaGreatDoorJ01Puts
import Derived.Test.YtioiabfheeglgaaGreatDoorJ16SmallP
import Derived.Test.YtioiabfheeglgaaGreatDoorJ22ExD
import Derived.Test.YtioiabfheeglgaaGreatDoorJ08StepB
import Derived.Test.YtioiabfheeglgaaGreatDoorJ03RegGrow
import Derived.Test.YtioiabfheeglgaaGreatDoorJ18RowPut
import Derived.Deep.QuietTactic
import Derived.BigQuiet
namespace Go.Proofs.YtioiabfheeglgaaGreatDoor
open Go.RowKit

def boolsL (f : Nat → Bool) : List Value := (List.range 256).map (fun i => Value.bool (f i))
def boolsA (f : Nat → Bool) : Array Value := (boolsL f).toArray
def upd (f : Nat → Bool) (i : Nat) : Nat → Bool := fun j => if j = i then true else f j
def idxL (l : Int) : Nat := (l % 256).toNat
def markI (L : List Int) (f : Nat → Bool) : Nat → Bool := L.foldl (fun f l => upd f (idxL l)) f
def insLs (L : List InsT) : List Int := L.map InsT.l
def atmLs (L : List AtomT) : List Int := L.map AtomT.l
/-- All the letters that a test names. -/
def allLs (t : TestT) : List Int := t.ini.map InitT.l ++ (t.thr.flatMap insLs ++ (t.cond.any.flatMap atmLs ++ []))
/-- Those letters below c that are there. -/
def outTo (F : Nat → Bool) (c : Nat) : List UInt8 := ((List.range (c - 97)).filter (fun i => F (97 + i))).map (fun i => UInt8.ofNat (97 + i))
theorem zero_bools : Tryz.zeroCells100 = boolsA (fun _ => false) := by kernel_rfl
theorem lowB (l : Int) : bits .and .i64 l 255 = (idxL l : Int) := by
 obtain ⟨k, h, e, g⟩ := i64_low l 8 255 (by decide) (by decide)
 have g' : (k : Int) = l % 256 := g
 rw [e]
 unfold idxL
 omega
theorem idxL_lt (l : Int) : idxL l < 256 := by unfold idxL; omega
theorem bools_at (f : Nat → Bool) {i : Nat} (h : i < 256) : (boolsA f)[i]? = some (.bool (f i)) := by
 unfold boolsA boolsL
 rw [List.getElem?_toArray, List.getElem?_map, List.getElem?_range h]
 rfl
theorem bools_set (f : Nat → Bool) (i : Nat) : ((boolsL f).set i (.bool true)).toArray = boolsA (upd f i) := by
 unfold boolsA boolsL
 congr 1
 apply List.ext_getElem?
 intro j
 rw [List.getElem?_set, List.getElem?_map, List.getElem?_map]
 by_cases hij : i = j
 ·
  subst hij
  rw [if_pos rfl]
  by_cases hj : i < 256
  ·
   rw [if_pos (by simpa using hj), List.getElem?_range hj]
   simp [upd]
  ·
   rw [if_neg (by simpa using hj), List.getElem?_eq_none (by simpa using hj)]
   rfl
 ·
  rw [if_neg hij]
  by_cases hj : j < 256
  ·
   rw [List.getElem?_range hj]
   have : ¬ j = i := fun h => hij h.symm
   simp [upd, this]
  ·
   rw [List.getElem?_eq_none (by simpa using hj)]
   rfl
theorem Bk.mark {w : World} {N : Nat} {f : Nat → Bool} (h : Bk w N (boolsA f)) (i : Nat) : Bk (w.setCell ⟨N, i, none⟩ (.bool true)) N (boolsA (upd f i)) := by
 rw [← bools_set]
 exact Bk.put h i _
theorem outTo_step (F : Nat → Bool) {c : Nat} (h : 97 ≤ c) : outTo F (c + 1) = if F c then outTo F c ++ [UInt8.ofNat c] else outTo F c := by
 unfold outTo
 rw [show c + 1 - 97 = (c - 97) + 1 by omega, List.range_succ, List.filter_append, List.map_append]
 have e : 97 + (c - 97) = c := by omega
 cases hF : F c with
 | true =>
  rw [List.filter_cons_of_pos (by rw [e]; exact hF), if_pos rfl]
  show _ ++ [UInt8.ofNat (97 + (c - 97))] = _
  rw [e]
 | false =>
  rw [List.filter_cons_of_neg (by rw [e, hF]; decide)]
  simp
theorem outTo_len (F : Nat → Bool) (c : Nat) : (outTo F c).length ≤ c - 97 := by
 unfold outTo
 rw [List.length_map]
 have := List.length_filter_le (fun i => F (97 + i)) (List.range (c - 97))
 simpa using this
set_option maxHeartbeats 16000000 in
set_option maxRecDepth 8000 in
theorem rlocs_is (t : TestT) (v : Value) (w : World) (h : TestRd w v t) :
  Calls Tryz.prog 29 #[v] w fun e w' => ∃ a c, e = .returned (.slice a (outTo (markI (allLs t) (fun _ => false)) 123).length c) ∧ w'.ownsRow w.heap.size 5 1 (.slice a (outTo (markI (allLs t) (fun _ => false)) 123).length c) (outTo (markI (allLs t) (fun _ => false)) 123).length ((outTo (markI (allLs t) (fun _ => false)) 123).map byteV) ∧ On w w' := by
 obtain ⟨i0, hi, hz0, hz1, hz2⟩ := info_parts infoByte
 obtain ⟨a1, c1, a2, c2, a3, c3, rfl, hnm, r1, r2, r3⟩ := h.ex
 clear h hnm
 obtain ⟨_, _, _, _, hm1⟩ := r1.slice
 obtain ⟨_, _, _, _, hm2⟩ := r2.slice
 obtain ⟨_, _, _, _, hm3⟩ := r3.slice
 have R1 : Hid (Rd iniC 2 w (.slice a1 t.ini.length c1) t.ini) := r1
 have R2 : Hid (Rd2 insC 9 w (.slice a2 t.thr.length c2) t.thr) := r2
 have R3 : Hid (Rd2 atomC 4 w (.slice a3 t.cond.any.length c3) t.cond.any) := r3
 obtain ⟨F, hF⟩ : ∃ F, F = markI (allLs t) (fun _ => false) := ⟨_, rfl⟩
 rw [← hF]
 have HF : Hid (F = markI ((t.ini.drop 0).map InitT.l ++ (t.thr.flatMap insLs ++ (t.cond.any.flatMap atmLs ++ []))) (fun _ => false)) := hF
 clear hF r1 r2 r3
 generalize t.name = nm
 generalize t.cond.k = kk
 generalize t.ini = INI at *
 generalize t.thr = THR at *
 generalize t.cond.any = ANY at *
 have bt : ∀ cs T B, Bk ((w.alloc (.cells cs T)).alloc B) w.heap.size cs := fun cs T B => (Bk.new w cs T).alloc B
 have bb : ∀ A T, Bk ((w.alloc A).alloc (.cells Tryz.zeroCells100 T)) (w.heap.size + 1) (boolsA (fun _ => false)) := fun A T => by have := Bk.new (w.alloc A) Tryz.zeroCells100 T; rw [World.size_alloc, zero_bools] at this; rw [zero_bools]; exact this
 go_enter Tryz.func29, Tryz.ntmps29
 go_wp2
 go_loopg [4] INI.length (fun gg s4 wq => ∃ (n : Nat) (f : Nat → Bool), n ≤ INI.length ∧ gg = INI.length - n ∧ s4 = .int .i64 n ∧ Hid (On w wq) ∧ Bk wq w.heap.size #[.string nm, .slice a1 INI.length c1, .slice a2 THR.length c2, .int .i64 kk, .slice a3 ANY.length c3] ∧ Bk wq (w.heap.size + 1) (boolsA f) ∧ Hid (F = markI ((INI.drop n).map InitT.l ++ (THR.flatMap insLs ++ (ANY.flatMap atmLs ++ []))) f))
 case atStart => exact ⟨0, _, Nat.zero_le _, rfl, rfl, ((On.refl w).alloc _).alloc _, bt _ _ _, bb _ _, HF⟩
 case round =>
  clear HF bt bb
  obtain ⟨n, f, hn, hk, rfl, HO, TB, FB, HF⟩ := hrel
  have t1 := TB.at (i := 1) rfl
  have tl := TB.lt
  have fl := FB.lt
  rcases Nat.lt_or_ge n INI.length with hlt | hge
  ·
   obtain ⟨x, hx⟩ : ∃ x, INI[n]? = some x := ⟨_, List.getElem?_eq_getElem hlt⟩
   obtain ⟨g, off, rfl, hg, hcell⟩ := (R1.out.on HO.out).at hx
   have q0 : wr.cell? ⟨g, off + n * 2, none⟩ = _ := hcell 0 _ rfl
   have ea := lowB x.l
   have el := idxL_lt x.l
   have hc := FB.at (bools_at f el)
   have hfz := FB.fr (idxL x.l)
   have HJ : Hid (F = markI ((INI.drop (n + 1)).map InitT.l ++ (THR.flatMap insLs ++ (ANY.flatMap atmLs ++ []))) (upd f (idxL x.l))) := by
    show F = _
    rw [HF.out, drop_at hx]; rfl
   clear HF hcell hx
   generalize idxL x.l = k at *
   go_wp2
   go_roundg (INI.length - (n + 1))
   case measure => omega
   case rel => exact ⟨n + 1, _, by omega, rfl, by go_num, HO.out.setNew (by omega) _, TB.far (by omega) _ _, FB.mark k, HJ⟩
  ·
   obtain rfl : n = INI.length := by omega
   have HG : Hid (F = markI ((THR.drop 0).flatMap insLs ++ (ANY.flatMap atmLs ++ [])) f) := by
    show F = _
    rw [HF.out, List.drop_of_length_le hge]; rfl
   clear HF
   go_wp2
   clear t1
   go_loopg [5] THR.length (fun gg s5 wq => ∃ (n : Nat) (f : Nat → Bool), n ≤ THR.length ∧ gg = THR.length - n ∧ s5 = .int .i64 n ∧ Hid (On w wq) ∧ Bk wq w.heap.size #[.string nm, .slice a1 INI.length c1, .slice a2 THR.length c2, .int .i64 kk, .slice a3 ANY.length c3] ∧ Bk wq (w.heap.size + 1) (boolsA f) ∧ Hid (F = markI ((THR.drop n).flatMap insLs ++ (ANY.flatMap atmLs ++ [])) f))
   case atStart => exact ⟨0, f, Nat.zero_le _, rfl, rfl, HO, TB, FB, HG⟩
   case round =>
    clear HG HO TB FB tl fl hge hn hk
    obtain ⟨n, f, hn, hk, rfl, HO, TB, FB, HF⟩ := hrel
    obtain ⟨V, hV⟩ : ∃ V, V = wr := ⟨_, rfl⟩
    subst hV
    have t2 := TB.at (i := 2) rfl
    have tl := TB.lt
    rcases Nat.lt_or_ge n THR.length with hlt | hge
    ·
     obtain ⟨x, hx⟩ : ∃ x, THR[n]? = some x := ⟨_, List.getElem?_eq_getElem hlt⟩
     have HI : Hid (F = markI (insLs (x.drop 0) ++ ((THR.drop (n + 1)).flatMap insLs ++ (ANY.flatMap atmLs ++ []))) f) := by
      show F = _
      rw [HF.out, drop_at hx, List.flatMap_cons, List.append_assoc]; rfl
     have HX : Hid (THR[n]? = some x) := hx
     clear HF hx
     go_wp2
     clear t2
     go_loopg [6] x.length (fun gg s6 wq => ∃ (m : Nat) (f : Nat → Bool), m ≤ x.length ∧ gg = x.length - m ∧ s6 = .int .i64 m ∧ Hid (On w wq) ∧ Bk wq w.heap.size #[.string nm, .slice a1 INI.length c1, .slice a2 THR.length c2, .int .i64 kk, .slice a3 ANY.length c3] ∧ Bk wq (w.heap.size + 1) (boolsA f) ∧ Hid (F = markI (insLs (x.drop m) ++ ((THR.drop (n + 1)).flatMap insLs ++ (ANY.flatMap atmLs ++ []))) f))
     case atStart => exact ⟨0, f, Nat.zero_le _, rfl, rfl, HO, TB, FB, HI⟩
     case round =>
      clear HI HO TB FB tl
      obtain ⟨m, f, hm, hkm, rfl, HO, TB, FB, HI⟩ := hrel
      have t2 := TB.at (i := 2) rfl
      have tl := TB.lt
      have fl := FB.lt
      obtain ⟨g, off, rfl, hg, ax, cx, v0, hxm, rx⟩ := (R2.out.on HO.out).row HX.out
      rcases Nat.lt_or_ge m x.length with hlm | hgm
      ·
       obtain ⟨y, hy⟩ : ∃ y, x[m]? = some y := ⟨_, List.getElem?_eq_getElem hlm⟩
       obtain ⟨g2, off2, rfl, hg2, hcell⟩ := rx.at hy
       have q2 : wr.cell? ⟨g2, off2 + m * 9 + 2, none⟩ = _ := hcell 2 _ rfl
       have ea := lowB y.l
       have el := idxL_lt y.l
       have hc := FB.at (bools_at f el)
       have hfz := FB.fr (idxL y.l)
       have HJ : Hid (F = markI (insLs (x.drop (m + 1)) ++ ((THR.drop (n + 1)).flatMap insLs ++ (ANY.flatMap atmLs ++ []))) (upd f (idxL y.l))) := by
        show F = _
        rw [HI.out, drop_at hy]; rfl
       clear HI hcell hy rx
       generalize idxL y.l = k at *
       go_wp2
       go_roundg (x.length - (m + 1))
       case measure => omega
       case rel => exact ⟨m + 1, _, by omega, rfl, by go_num, HO.out.setNew (by omega) _, TB.far (by omega) _ _, FB.mark k, HJ⟩
      ·
       have HJ : Hid (F = markI ((THR.drop (n + 1)).flatMap insLs ++ (ANY.flatMap atmLs ++ [])) f) := by
        show F = _
        rw [HI.out, List.drop_of_length_le hgm]; rfl
       clear HI rx
       go_wp2
       go_roundg (THR.length - (n + 1))
       case measure => omega
       case rel => exact ⟨n + 1, f, by omega, rfl, by go_num, HO, TB, FB, HJ⟩
    ·
     obtain rfl : n = THR.length := by omega
     have HG : Hid (F = markI ((ANY.drop 0).flatMap atmLs ++ []) f) := by
      show F = _
      rw [HF.out, List.drop_of_length_le hge]; rfl
     clear HF
     go_wp2
     clear t2
     go_loopg [7] ANY.length (fun gg s7 wq => ∃ (n : Nat) (f : Nat → Bool), n ≤ ANY.length ∧ gg = ANY.length - n ∧ s7 = .int .i64 n ∧ Hid (On w wq) ∧ Bk wq w.heap.size #[.string nm, .slice a1 INI.length c1, .slice a2 THR.length c2, .int .i64 kk, .slice a3 ANY.length c3] ∧ Bk wq (w.heap.size + 1) (boolsA f) ∧ Hid (F = markI ((ANY.drop n).flatMap atmLs ++ []) f))
     case atStart => exact ⟨0, f, Nat.zero_le _, rfl, rfl, HO, TB, FB, HG⟩
     case round =>
      clear HG HO TB FB tl hge hn hk
      obtain ⟨n, f, hn, hk, rfl, HO, TB, FB, HF⟩ := hrel
      obtain ⟨V2, hV2⟩ : ∃ V, V = wr := ⟨_, rfl⟩
      subst hV2
      have t4 := TB.at (i := 4) rfl
      have tl := TB.lt
      rcases Nat.lt_or_ge n ANY.length with hlt | hge
      ·
       obtain ⟨x, hx⟩ : ∃ x, ANY[n]? = some x := ⟨_, List.getElem?_eq_getElem hlt⟩
       have HI : Hid (F = markI (atmLs (x.drop 0) ++ ((ANY.drop (n + 1)).flatMap atmLs ++ [])) f) := by
        show F = _
        rw [HF.out, drop_at hx, List.flatMap_cons, List.append_assoc]; rfl
       have HX : Hid (ANY[n]? = some x) := hx
       clear HF hx
       go_wp2
       clear t4
       go_loopg [8] x.length (fun gg s8 wq => ∃ (m : Nat) (f : Nat → Bool), m ≤ x.length ∧ gg = x.length - m ∧ s8 = .int .i64 m ∧ Hid (On w wq) ∧ Bk wq w.heap.size #[.string nm, .slice a1 INI.length c1, .slice a2 THR.length c2, .int .i64 kk, .slice a3 ANY.length c3] ∧ Bk wq (w.heap.size + 1) (boolsA f) ∧ Hid (F = markI (atmLs (x.drop m) ++ ((ANY.drop (n + 1)).flatMap atmLs ++ [])) f))
       case atStart => exact ⟨0, f, Nat.zero_le _, rfl, rfl, HO, TB, FB, HI⟩
       case round =>
        clear HI HO TB FB tl
        obtain ⟨m, f, hm, hkm, rfl, HO, TB, FB, HI⟩ := hrel
        have t4 := TB.at (i := 4) rfl
        have tl := TB.lt
        have fl := FB.lt
        obtain ⟨g, off, rfl, hg, ax, cx, v0, hxm, rx⟩ := (R3.out.on HO.out).row HX.out
        rcases Nat.lt_or_ge m x.length with hlm | hgm
        ·
         obtain ⟨y, hy⟩ : ∃ y, x[m]? = some y := ⟨_, List.getElem?_eq_getElem hlm⟩
         obtain ⟨g2, off2, rfl, hg2, hcell⟩ := rx.at hy
         have q2 : wr.cell? ⟨g2, off2 + m * 4 + 2, none⟩ = _ := hcell 2 _ rfl
         have ea := lowB y.l
         have el := idxL_lt y.l
         have hc := FB.at (bools_at f el)
         have hfz := FB.fr (idxL y.l)
         have HJ : Hid (F = markI (atmLs (x.drop (m + 1)) ++ ((ANY.drop (n + 1)).flatMap atmLs ++ [])) (upd f (idxL y.l))) := by
          show F = _
          rw [HI.out, drop_at hy]; rfl
         clear HI hcell hy rx
         generalize idxL y.l = k at *
         go_wp2
         go_roundg (x.length - (m + 1))
         case measure => omega
         case rel => exact ⟨m + 1, _, by omega, rfl, by go_num, HO.out.setNew (by omega) _, TB.far (by omega) _ _, FB.mark k, HJ⟩
        ·
         have HJ : Hid (F = markI ((ANY.drop (n + 1)).flatMap atmLs ++ []) f) := by
          show F = _
          rw [HI.out, List.drop_of_length_le hgm]; rfl
         clear HI rx
         go_wp2
         go_roundg (ANY.length - (n + 1))
         case measure => omega
         case rel => exact ⟨n + 1, f, by omega, rfl, by go_num, HO, TB, FB, HJ⟩
      ·
       obtain rfl : n = ANY.length := by omega
       obtain rfl : F = f := by rw [HF.out, List.drop_of_length_le hge]; rfl
       clear HF
       go_wp2
       clear t4
       clear tl TB
       go_loopg [9, 10] 26 (fun gg s9 s10 wq => ∃ c : Nat, 97 ≤ c ∧ c ≤ 123 ∧ gg = 123 - c ∧ s10 = .int .i32 c ∧ Hid (On w wq) ∧ Bk wq (w.heap.size + 1) (boolsA F) ∧ wq.ownsRow (w.heap.size + 1 + 1) 5 1 s9 (outTo F c).length ((outTo F c).map byteV))
       case atStart => exact ⟨97, by omega, by omega, rfl, rfl, HO, FB, World.ownsRow_nil _ _ _ _⟩
       case round =>
        clear FB HO
        obtain ⟨c, hc0, hc1, hgc, rfl, HO, FB, hown⟩ := hrel
        have fl := FB.lt
        have hlen := outTo_len F c
        rcases Nat.lt_or_ge c 123 with hlc | hgc2
        ·
         have hcc := FB.at (bools_at F (show c < 256 by omega))
         cases hF : F c with
         | true =>
          rw [hF] at hcc
          have hst := outTo_step F hc0
          rw [hF] at hst
          simp only [if_true] at hst
          obtain ⟨b, hb, hbv⟩ : ∃ b : UInt8, Hid (b = UInt8.ofNat c) ∧ (c : Int) = (b.toNat : Int) := ⟨_, rfl, by rw [UInt8.toNat_ofNat']; omega⟩
          have hb2 : IntKind.u8.wrap (c : Int) = (b.toNat : Int) := by rw [IntKind.wrap_u8]; omega
          rw [← hb.out] at hst
          have HST : Hid (outTo F (c + 1) = outTo F c ++ [b]) := hst
          have hlt' : ∀ g, u9.ownBlock = some g → w.heap.size + 1 + 1 ≤ g := fun g hg => (hown.lt g hg).1
          clear hst hbv
          go_wp2_with (at_builtin; refine wpList_append_own _ rfl _ _ 23 rfl (w.heap.size + 1 + 1) 5 i0 (.int .u8 0) 1 1 Tryz.underlying23 hi hz0 hz1 hz2 rfl (by decide) _ _ _ rfl (hown.alloc _) ⟨wr.heap.size, 0, none⟩ 1 1 [byteV b] rfl rfl ?c1 ?c2 ?c3 ?c4 ?c5 ?_)
          case c1 =>
           intro j u hu
           rw [new_cell]
           exact hu
          case c2 =>
           intro u hu
           simp only [List.mem_cons, List.not_mem_nil, or_false] at hu
           subst hu
           rfl
          case c3 => unfold maxLen; omega
          case c4 => omega
          case c5 => simp only [World.size_alloc]; omega
          intro v' w4 hown4 hg4 _
          have O4 : Hid (On w w4) := (HO.out.alloc _).grown hg4 (fun g hg => by have := hlt' g hg; omega)
          have F4 : Bk w4 (w.heap.size + 1) _ := (FB.alloc _).grown hg4 (by omega) hlt'
          have W4 : Hid (w4.ownsRow (w.heap.size + 1 + 1) 5 1 v' (outTo F (c + 1)).length ((outTo F (c + 1)).map byteV)) := by
           show World.ownsRow _ _ _ _ _ _ _
           rw [HST.out]
           simpa using hown4
          clear hown4 hg4
          go_wp2
          go_roundg (123 - (c + 1))
          case measure => omega
          case rel => exact ⟨c + 1, by omega, by omega, rfl, by go_num, O4, F4, W4.out⟩
         | false =>
          rw [hF] at hcc
          have hst := outTo_step F hc0
          rw [hF] at hst
          simp only [Bool.false_eq_true, if_false] at hst
          have W4 : Hid (wr.ownsRow (w.heap.size + 1 + 1) 5 1 u9 (outTo F (c + 1)).length ((outTo F (c + 1)).map byteV)) := by
           show World.ownsRow _ _ _ _ _ _ _
           rw [hst]
           exact hown
          clear hst
          go_wp2
          go_roundg (123 - (c + 1))
          case measure => omega
          case rel => exact ⟨c + 1, by omega, by omega, rfl, by go_num, HO, FB, W4.out⟩
        ·
         obtain rfl : c = 123 := by omega
         obtain ⟨ar, cr, rfl⟩ := own_slice hown
         go_wp2
         go_ret
         exact ⟨ar, cr, rfl, own_mono hown (by omega), HO.out⟩
end Go.Proofs.YtioiabfheeglgaaGreatDoor

namespace Go.Proofs.YtioiabfheeglgaaGreatDoor
open Go.RowKit

/-- Where a letter stands first, from place i on. -/
def plFrom (l : Int) : Nat → List UInt8 → Int
 | _, [] => -1
 | i, b :: r => if ((b.toNat : Int) == l) then (i : Int) else plFrom l (i + 1) r
def plR (LT : List UInt8) (l : Int) : Int := plFrom l 0 LT
set_option maxHeartbeats 2000000 in
theorem rplace_is (LT : List UInt8) (l : Int) (al a2 a3 : Option Addr) (cl m2 c2 m3 c3 : Nat) (w : World) (h : Rd byteC 1 w (.slice al LT.length cl) LT) :
  Calls Tryz.prog 30 #[.agg #[.slice al LT.length cl, .slice a2 m2 c2, .slice a3 m3 c3], .int .i64 l] w fun e w' => e = .returned (.int .i64 (plR LT l)) ∧ On w w' := by
 obtain ⟨_, _, _, _, hm⟩ := h.slice
 have HR : Hid (Rd byteC 1 w (.slice al LT.length cl) LT) := h
 obtain ⟨R, hR⟩ : ∃ R, R = plR LT l := ⟨_, rfl⟩
 rw [← hR]
 have HS : Hid (R = plFrom l 0 (LT.drop 0)) := hR
 clear h hR
 have bt : ∀ cs T, Bk (w.alloc (.cells cs T)) w.heap.size cs := fun cs T => Bk.new w cs T
 go_enter Tryz.func30, Tryz.ntmps30
 go_wp2
 go_loopg [5] LT.length (fun gg s5 wq => ∃ n : Nat, n ≤ LT.length ∧ gg = LT.length - n ∧ s5 = .int .i64 n ∧ Hid (On w wq) ∧ Bk wq w.heap.size #[.slice al LT.length cl, .slice a2 m2 c2, .slice a3 m3 c3] ∧ Hid (R = plFrom l n (LT.drop n)))
 case atStart => exact ⟨0, Nat.zero_le _, rfl, rfl, (On.refl w).alloc _, bt _ _, HS⟩
 case round =>
  clear HS bt
  obtain ⟨n, hn, hk, rfl, HO, TB, HS⟩ := hrel
  have t0 := TB.at (i := 0) rfl
  have tl := TB.lt
  rcases Nat.lt_or_ge n LT.length with hlt | hge
  ·
   obtain ⟨b, hb⟩ : ∃ b, LT[n]? = some b := ⟨_, List.getElem?_eq_getElem hlt⟩
   obtain ⟨g, off, rfl, hg, hcell⟩ := (HR.out.on HO.out).at hb
   have q0 : wr.cell? ⟨g, off + n, none⟩ = some (.int .u8 (b.toNat : Int)) := by have := hcell 0 _ rfl; rwa [Nat.mul_one, Nat.add_zero] at this
   have hd : Hid (LT.drop n = b :: LT.drop (n + 1)) := drop_at hb
   have hbb := b.toNat_lt
   cases he : ((b.toNat : Int) == l) with
   | true =>
    obtain rfl : R = (n : Int) := by rw [HS.out, hd.out, plFrom, he]; rfl
    clear HS hd hcell hb
    go_wp2
    go_ret
    exact ⟨rfl, HO.out⟩
   | false =>
    have HJ : Hid (R = plFrom l (n + 1) (LT.drop (n + 1))) := by
     show R = _
     rw [HS.out, hd.out, plFrom, he]; rfl
    clear HS hd hcell hb
    go_wp2
    go_roundg (LT.length - (n + 1))
    case measure => omega
    case rel => exact ⟨n + 1, by omega, rfl, by go_num, HO, TB, HJ⟩
  ·
   obtain rfl : n = LT.length := by omega
   obtain rfl : R = -1 := by rw [HS.out, List.drop_of_length_le hge]; rfl
   go_wp2
   go_ret
   exact ⟨rfl, HO.out⟩

/-- The number that a location begins with. -/
def valFrom (b : UInt8) (L : List InitT) (v : Int) : Int := L.foldl (fun v x => if (x.l == (b.toNat : Int)) then x.v else v) v
def iniVals (LT : List UInt8) (L : List InitT) : List Int := LT.map (fun b => valFrom b L 0)
def rplIns (LT : List UInt8) (x : InsT) : InsT := if x.l == 0 then x else ⟨x.k, x.r, plR LT x.l, x.a, x.o, x.b, x.n⟩
def rplRow (LT : List UInt8) (L : List InsT) : List InsT := L.map (rplIns LT)
def locsR (t : TestT) : List UInt8 := outTo (markI (allLs t) (fun _ => false)) 123
/-- v is a program: its locations, their numbers, its threads. -/
structure ProgFl (w : World) (v : Value) (LT : List UInt8) (IN : List Int) (LL : List (List InsT)) : Prop where
 ex : ∃ a1 c1 a2 c2 a3 c3, v = .agg #[.slice a1 LT.length c1, .slice a2 IN.length c2, .slice a3 LL.length c3] ∧ Rd byteC 1 w (.slice a1 LT.length c1) LT ∧ Rd intC 1 w (.slice a2 IN.length c2) IN ∧ Rd2 insC 9 w (.slice a3 LL.length c3) LL
theorem ProgFl.on {w w' : World} {v : Value} {LT : List UInt8} {IN : List Int} {LL : List (List InsT)} (h : ProgFl w v LT IN LL) (k : On w w') : ProgFl w' v LT IN LL := by
 obtain ⟨a1, c1, a2, c2, a3, c3, e, h1, h2, h3⟩ := h.ex
 exact ⟨a1, c1, a2, c2, a3, c3, e, h1.on k, h2.on k, h3.on k⟩
theorem ProgFl.rd {w : World} {v : Value} {LT : List UInt8} {IN : List Int} {LL : List (List InsT)} (h : ProgFl w v LT IN LL) : ProgRd w v LL := by
 obtain ⟨a1, c1, a2, c2, a3, c3, e, h1, h2, h3⟩ := h.ex
 exact ⟨a1, _, c1, a2, _, c2, a3, c3, e, h3⟩
theorem own_ne_wa2 {w w' : World} {B base k n : Nat} {e : TypeId} {v : Value} {xs : List Value} (h : w.ownsRow base e k v n xs) (kk : Wa B w w') (hB : ∀ b, v.ownBlock = some b → b ≠ B) : w'.ownsRow base e k v n xs := by
 refine ⟨h.1, ?_⟩
 rcases h.2 with h2 | ⟨g, cap, cur, rfl, hb, hh, r⟩
 ·
  exact Or.inl h2
 ·
  exact Or.inr ⟨g, cap, cur, rfl, hb, (kk.block g (lt_of_block hh) (fun e => hB g rfl (Option.some.inj e))).trans hh, r⟩
theorem ne7 : (2 : TypeId) ≠ 68 := by decide
theorem ne8 : (68 : TypeId) ≠ 2 := by decide
theorem one_int (v : Int) : ∀ u ∈ [Value.int .i64 v], u.oneCell' = true := by
 intro u hu
 simp only [List.mem_cons, List.not_mem_nil, or_false] at hu
 subst hu
 rfl
set_option maxHeartbeats 16000000 in
set_option maxRecDepth 8000 in
theorem rcompile_is (t : TestT) (v : Value) (w : World) (h : TestRd w v t) (h24 : t.thr.length ≤ 1000000 ∧ ∀ L ∈ t.thr, L.length ≤ 1000000) :
  Calls Tryz.prog 11 #[v] w fun e w' => ∃ pv, e = .returned pv ∧ (∀ (N : Nat) (ps : List Value) (o : Nat), N < w.heap.size ∨ ps = [] → ProgFl (putCells w' N o ps) pv (locsR t) (iniVals (locsR t) t.ini) (t.thr.map (rplRow (locsR t)))) ∧ On w w' := by
 obtain ⟨j0, hj, jz0, jz1, jz2⟩ := info_parts infoI64
 obtain ⟨i0, hi, hz0, hz1, hz2⟩ := info_parts infoThr
 obtain ⟨i1, hi1, y0, y1, y2⟩ := info_parts infoIns
 have hL := fun W (k : On w W) => rlocs_is t v W (h.on k)
 have hl26 : (locsR t).length ≤ 26 := outTo_len _ 123
 obtain ⟨a1, c1, a2, c2, a3, c3, rfl, hnm, r1, r2, r3⟩ := h.ex
 obtain ⟨_, _, _, _, hm1⟩ := r1.slice
 have R1 : Hid (Rd iniC 2 w (.slice a1 t.ini.length c1) t.ini) := r1
 have R2 : Hid (Rd2 insC 9 w (.slice a2 t.thr.length c2) t.thr) := r2
 have hLx : ∀ W, On w W → Calls Tryz.prog 29 #[.agg #[.string t.name, .slice a1 t.ini.length c1, .slice a2 t.thr.length c2, .int .i64 t.cond.k, .slice a3 t.cond.any.length c3]] W fun e w' => ∃ a c, e = .returned (.slice a (locsR t).length c) ∧ w'.ownsRow W.heap.size 5 1 (.slice a (locsR t).length c) (locsR t).length ((locsR t).map byteV) ∧ On W w' := hL
 clear h hnm r1 r2 r3 hL
 generalize locsR t = LT at *
 obtain ⟨h24a, h24b⟩ := h24
 generalize t.name = nm at *
 generalize t.cond.k = kk at *
 generalize t.cond.any.length = m3 at *
 generalize t.ini = INI at *
 generalize t.thr = THR at *
 have HB : Hid (∀ L ∈ THR, L.length ≤ 1000000) := h24b
 clear h24b
 have k0 : ∀ A B, On w ((w.alloc A).alloc B) := fun A B => ((On.refl w).alloc A).alloc B
 have bt : ∀ cs T B, Bk ((w.alloc (.cells cs T)).alloc B) w.heap.size cs := fun cs T B => (Bk.new w cs T).alloc B
 have br : ∀ A cs T, Bk ((w.alloc A).alloc (.cells cs T)) (w.heap.size + 1) cs := fun A cs T => by have := Bk.new (w.alloc A) cs T; rwa [World.size_alloc] at this
 go_enter Tryz.func11, Tryz.ntmps11
 go_wp2_with fail
 refine (hLx _ (k0 _ _)).mono ?_
 rintro e w1 ⟨al, cl, rfl, ho, k1⟩
 have TB1 := (bt _ _ _).on k1
 have ZB1 := (br _ _ _).on k1
 have K1 : Hid (On w w1) := (k0 _ _).trans k1
 have HL : Hid (Rd byteC 1 w1 (.slice al LT.length cl) LT) := rd_bytes ho
 have HLO : Hid (w1.ownsRow (w.heap.size + 1 + 1) 5 1 (.slice al LT.length cl) LT.length (LT.map byteV)) := own_mono ho (by simp only [World.size_alloc]; omega)
 have tl1 := TB1.lt
 have zl1 := ZB1.lt
 have hP0 : ∀ cs T, Bk (w1.alloc (.cells cs T)) w1.heap.size cs := fun cs T => Bk.new w1 cs T
 clear hLx k1 ho k0 bt br
 go_wp2
 go_loopg [4] LT.length (fun gg s4 wq => ∃ (n : Nat) (a : Option Addr) (c : Nat), n ≤ LT.length ∧ gg = LT.length - n ∧ s4 = .int .i64 n ∧ Hid (On w1 wq) ∧ Bk wq w1.heap.size #[.slice al LT.length cl, .slice a n c, .slice none 0 0] ∧ wq.ownsRow (w1.heap.size + 1) 2 1 (.slice a n c) n ((iniVals (LT.take n) INI).flatMap intC))
 case atStart => exact ⟨0, none, 0, Nat.zero_le _, rfl, rfl, (On.refl w1).alloc _, hP0 _ _, World.ownsRow_nil _ _ _ _⟩
 case round =>
  clear hP0
  obtain ⟨n, a, c, hn, hk, rfl, HO, PB, hown⟩ := hrel
  obtain ⟨V, hV⟩ : ∃ V, V = wr := ⟨_, rfl⟩
  subst hV
  have p0 := PB.at (i := 0) rfl
  have pl := PB.lt
  rcases Nat.lt_or_ge n LT.length with hlt | hge
  ·
   obtain ⟨b, hb⟩ : ∃ b, LT[n]? = some b := ⟨_, List.getElem?_eq_getElem hlt⟩
   have hbb := b.toNat_lt
   obtain ⟨VAL, hVAL⟩ : ∃ VAL, VAL = valFrom b INI 0 := ⟨_, rfl⟩
   have HV : Hid (VAL = valFrom b (INI.drop 0) 0) := hVAL
   have HX : Hid (LT[n]? = some b) := hb
   have HT : Hid (iniVals (LT.take n) INI ++ [VAL] = iniVals (LT.take (n + 1)) INI) := by
    show _ = _
    rw [hVAL]
    unfold iniVals
    rw [List.take_add_one, hb]
    simp
   have HW : Hid _ := hown
   clear hVAL hb hown
   go_wp2
   go_loopg [5, 6] INI.length (fun gg s5 s6 wq => ∃ (m : Nat) (vv : Int), m ≤ INI.length ∧ gg = INI.length - m ∧ s5 = .int .i64 vv ∧ s6 = .int .i64 m ∧ Hid (On V wq) ∧ Hid (VAL = valFrom b (INI.drop m) vv))
   case atStart => exact ⟨0, 0, Nat.zero_le _, rfl, rfl, rfl, On.refl _, HV⟩
   case round =>
    clear HV
    obtain ⟨m, vv, hm, hkm, rfl, rfl, HV2, HV⟩ := hrel
    have kT : On w1 wr := HO.out.trans HV2.out
    have TB := TB1.on kT
    have PBr := PB.on HV2.out
    have t1 := TB.at (i := 1) rfl
    have tl := TB.lt
    have p0r := PBr.at (i := 0) rfl
    have p1r := PBr.at (i := 1) rfl
    have pfr := fun i => PBr.fr i
    have plr := PBr.lt
    rcases Nat.lt_or_ge m INI.length with hlm | hgm
    ·
     obtain ⟨x, hx⟩ : ∃ x, INI[m]? = some x := ⟨_, List.getElem?_eq_getElem hlm⟩
     obtain ⟨g, off, rfl, hg, hcell⟩ := (R1.out.on (K1.out.trans kT)).at hx
     have q0 : wr.cell? ⟨g, off + m * 2, none⟩ = _ := hcell 0 _ rfl
     have q1 : wr.cell? ⟨g, off + m * 2 + 1, none⟩ = _ := hcell 1 _ rfl
     obtain ⟨gb, ob, rfl, hgb, hcb⟩ := (HL.out.on kT).at HX.out
     have qb : wr.cell? ⟨gb, ob + n, none⟩ = some (.int .u8 (b.toNat : Int)) := by have := hcb 0 _ rfl; rwa [Nat.mul_one, Nat.add_zero] at this
     have hd : Hid (INI.drop m = x :: INI.drop (m + 1)) := drop_at hx
     have bm0 : (0 : Int) ≤ (m : Int) := by omega
     have bm1 : (m : Int) < (INI.length : Int) := by omega
     have bn0 : (0 : Int) ≤ (n : Int) := by omega
     have bn1 : (n : Int) < (LT.length : Int) := by omega
     cases he : (x.l == (b.toNat : Int)) with
     | true =>
      have HJ : Hid (VAL = valFrom b (INI.drop (m + 1)) x.v) := by
       show VAL = _
       rw [HV.out, hd.out]
       unfold valFrom
       rw [List.foldl_cons, he]; rfl
      clear HV hd hcell hcb hx
      go_wp2
      go_quiet (fail)
      go_wp2
      go_roundg (INI.length - (m + 1))
      case measure => omega
      case rel => exact ⟨m + 1, x.v, by omega, rfl, rfl, by go_num, HV2.out.drewN _, HJ⟩
     | false =>
      have HJ : Hid (VAL = valFrom b (INI.drop (m + 1)) vv) := by
       show VAL = _
       rw [HV.out, hd.out]
       unfold valFrom
       rw [List.foldl_cons, he]; rfl
      clear HV hd hcell hcb hx
      go_wp2
      go_quiet (fail)
      go_wp2
      go_roundg (INI.length - (m + 1))
      case measure => omega
      case rel => exact ⟨m + 1, vv, by omega, rfl, rfl, by go_num, HV2.out.drewN _, HJ⟩
    ·
     obtain rfl : VAL = vv := by rw [HV.out, List.drop_of_length_le hgm]; rfl
     have hown := own_on HW.out HV2.out
     have blk : ∀ g, (Value.slice a n c).ownBlock = some g → w1.heap.size + 1 ≤ g := fun g hg => (hown.lt g hg).1
     have kA : ∀ T, On wr (wr.alloc T) := fun T => (On.refl wr).alloc T
     clear HV
     go_wp2_with (at_builtin; refine wpList_append_own _ rfl _ _ 24 rfl (w1.heap.size + 1) 2 j0 (.int .i64 0) 1 8 Tryz.underlying24 hj jz0 jz1 jz2 rfl (by decide) _ _ _ rfl (hown.alloc _) ⟨wr.heap.size, 0, none⟩ 1 1 (intC VAL) rfl rfl ?c1 ?c2 ?c3 ?c4 ?c5 ?_)
     case c1 => exact news_at wr _ _
     case c2 => exact one_int _
     case c3 => unfold maxLen; omega
     case c4 => omega
     case c5 => simp only [World.size_alloc]; omega
     intro v' w4 hown4 hg4 _
     obtain ⟨a5, c5, rfl⟩ := own_slice hown4
     have PB4 : Bk w4 w1.heap.size _ := (PBr.on (kA _)).grown hg4 (Nat.lt_succ_self _) blk
     have O4 : Hid (On w1 w4) := (kT.trans (kA _)).grown hg4 (fun g hg => Nat.le_of_succ_le (blk g hg))
     have W4 : Hid (w4.ownsRow (w1.heap.size + 1) 2 1 (.slice a5 (n + 1) c5) (n + 1) ((iniVals (LT.take (n + 1)) INI).flatMap intC)) := by
      show World.ownsRow _ _ _ _ _ _ _
      rw [← HT.out, List.flatMap_append]
      exact hown4
     have r1 := PB4.at (i := 1) rfl
     have rf := fun j => PB4.fr j
     clear hown4 hg4 hown
     go_wp2
     go_roundg (LT.length - (n + 1))
     case measure => omega
     case rel => exact ⟨n + 1, a5, c5, by omega, rfl, by go_num, O4.out.setNew (Nat.le_refl _) _, Bk.puts [.slice a5 (n + 1) c5] w4 [.slice al LT.length cl, .slice a n c, .slice none 0 0] 1 PB4, own_set W4.out (Nat.lt_succ_self _) _ _⟩
  ·
   obtain rfl : n = LT.length := by omega
   rw [List.take_length] at hown
   have HI : Hid (V.ownsRow (w1.heap.size + 1) 2 1 (.slice a LT.length c) LT.length ((iniVals LT INI).flatMap intC)) := hown
   clear hown
   go_wp2
   clear p0
   go_loopg [7] THR.length (fun gg s7 wq => ∃ (n : Nat) (at3 : Option Addr) (ct3 : Nat), n ≤ THR.length ∧ gg = THR.length - n ∧ s7 = .int .i64 n ∧ Hid (On w1 wq) ∧ Bk wq w1.heap.size #[.slice al LT.length cl, .slice a LT.length c, .slice at3 n ct3] ∧ Hid (wq.ownsRow (w1.heap.size + 1) 2 1 (.slice a LT.length c) LT.length ((iniVals LT INI).flatMap intC)) ∧ Hid (Own2 insC 9 68 67 wq (w1.heap.size + 1) (.slice at3 n ct3) ((THR.take n).map (rplRow LT))))
   case atStart => exact ⟨0, none, 0, Nat.zero_le _, rfl, rfl, HO, PB, HI, Own2.nil _ _ _ _ _ _⟩
   case round =>
    clear HI PB HO pl hge hn hk
    obtain ⟨n, at3, ct3, hn, hk, rfl, HO, PB, HI, HW⟩ := hrel
    obtain ⟨V2, hV2⟩ : ∃ V, V = wr := ⟨_, rfl⟩
    subst hV2
    have TB := TB1.on HO.out
    have t2 := TB.at (i := 2) rfl
    have tl := TB.lt
    have pl := PB.lt
    rcases Nat.lt_or_ge n THR.length with hlt | hge
    ·
     obtain ⟨x, hx⟩ : ∃ x, THR[n]? = some x := ⟨_, List.getElem?_eq_getElem hlt⟩
     have hx6 := HB.out x (List.mem_of_getElem? hx)
     have HX : Hid (THR[n]? = some x) := hx
     have HT : Hid ((THR.take n).map (rplRow LT) ++ [rplRow LT x] = (THR.take (n + 1)).map (rplRow LT)) := by
      show _ = _
      rw [List.take_add_one, hx]
      simp
     clear hx
     go_wp2
     clear t2 TB tl
     go_loopg [8, 9] x.length (fun gg s8 s9 wq => ∃ m : Nat, m ≤ x.length ∧ gg = x.length - m ∧ s9 = .int .i64 m ∧ Hid (On V2 wq) ∧ wq.ownsRow V2.heap.size 67 9 s8 m ((rplRow LT (x.take m)).flatMap insC))
     case atStart => exact ⟨0, Nat.zero_le _, rfl, rfl, On.refl _, World.ownsRow_nil _ _ _ _⟩
     case round =>
      obtain ⟨m, hm, hkm, rfl, HV3, hown⟩ := hrel
      have kT : On w1 wr := HO.out.trans HV3.out
      have TB := TB1.on kT
      have t2 := TB.at (i := 2) rfl
      have tl := TB.lt
      have PBr := PB.on HV3.out
      have p0r := PBr.at (i := 0) rfl
      have p1r := PBr.at (i := 1) rfl
      have p2r := PBr.at (i := 2) rfl
      have pfr := fun i => PBr.fr i
      have plr := PBr.lt
      obtain ⟨g, off, rfl, hg, ax, cx, v0, hxm, rx⟩ := (R2.out.on (K1.out.trans kT)).row HX.out
      rcases Nat.lt_or_ge m x.length with hlm | hgm
      ·
       obtain ⟨y, hy⟩ : ∃ y, x[m]? = some y := ⟨_, List.getElem?_eq_getElem hlm⟩
       obtain ⟨g2, off2, rfl, hg2, hcell⟩ := rx.at hy
       have q0 : wr.cell? ⟨g2, off2 + m * 9, none⟩ = _ := hcell 0 _ rfl
       have q1 : wr.cell? ⟨g2, off2 + m * 9 + 1, none⟩ = _ := hcell 1 _ rfl
       have q2 : wr.cell? ⟨g2, off2 + m * 9 + 2, none⟩ = _ := hcell 2 _ rfl
       have q3 : wr.cell? ⟨g2, off2 + m * 9 + 3, none⟩ = _ := hcell 3 _ rfl
       have q4 : wr.cell? ⟨g2, off2 + m * 9 + 4, none⟩ = _ := hcell 4 _ rfl
       have q5 : wr.cell? ⟨g2, off2 + m * 9 + 5, none⟩ = _ := hcell 5 _ rfl
       have q6 : wr.cell? ⟨g2, off2 + m * 9 + 6, none⟩ = _ := hcell 6 _ rfl
       have q7 : wr.cell? ⟨g2, off2 + m * 9 + 7, none⟩ = _ := hcell 7 _ rfl
       have q8 : wr.cell? ⟨g2, off2 + m * 9 + 8, none⟩ = _ := hcell 8 _ rfl
       have hsv2 := HV3.out.size
       have hblk : ∀ g, u8.ownBlock = some g → V2.heap.size ≤ g := fun g hg => (hown.lt g hg).1
       have HS : Hid (rplRow LT (x.take m) ++ [rplIns LT y] = rplRow LT (x.take (m + 1))) := by
        show _ = _
        unfold rplRow
        rw [List.take_add_one, hy]
        simp
       clear hcell hy rx
       cases h0 : (y.l == 0) with
       | true =>
        have e1 : rplIns LT y = y := by unfold rplIns; rw [h0]; rfl
        rw [e1] at HS
        have h0' : (y.l != 0) = false := by simp [bne, h0]
        clear h0
        go_wp2_with (at_builtin; refine wpList_append_own _ rfl _ _ 68 rfl V2.heap.size 67 i1 zIns 9 72 Tryz.underlying68 hi1 y0 y1 y2 rfl (by decide) _ _ _ rfl ((hown.alloc _).alloc _) ⟨wr.heap.size + 1, 0, none⟩ 1 1 (insC y) rfl rfl ?c1 ?c2 ?c3 ?c4 ?c5 ?_)
        case c1 => exact news_two wr _ _ _
        case c2 => exact one_ins y
        case c3 => unfold maxLen; omega
        case c4 => omega
        case c5 => simp only [World.size_alloc]; omega
        intro v' w4 hown4 hg4 _
        have O4 : Hid (On V2 w4) := ((HV3.out.alloc _).alloc _).grown hg4 hblk
        have W4 : Hid (w4.ownsRow V2.heap.size 67 9 v' (m + 1) ((rplRow LT (x.take (m + 1))).flatMap insC)) := by
         show World.ownsRow _ _ _ _ _ _ _
         rw [← HS.out, List.flatMap_append]
         exact hown4
        clear hown4 hg4
        go_wp2
        go_roundg (x.length - (m + 1))
        case measure => omega
        case rel => exact ⟨m + 1, by omega, rfl, by go_num, O4, W4.out⟩
       | false =>
        have e1 : rplIns LT y = ⟨y.k, y.r, plR LT y.l, y.a, y.o, y.b, y.n⟩ := by unfold rplIns; rw [h0]; rfl
        rw [e1] at HS
        have h0' : (y.l != 0) = true := by simp [bne, h0]
        have hPl := fun W (k : On w1 W) => rplace_is LT y.l al a at3 cl LT.length c n ct3 W (HL.out.on k)
        generalize plR LT y.l = pq at *
        have kX : ∀ T, On wr (wr.alloc T) := fun T => (On.refl wr).alloc T
        have bX : ∀ cs T, Bk (wr.alloc (.cells cs T)) wr.heap.size cs := fun cs T => Bk.new wr cs T
        clear h0
        go_wp2_with fail
        refine (hPl _ (kT.trans (kX _))).mono ?_
        rintro e w2 ⟨rfl, k2⟩
        have B2 := (bX _ _).on k2
        have k12 : On wr w2 := (kX _).trans k2
        have hown2 := own_on hown k12
        have s2 := k12.size
        have b2l := B2.lt
        have z0 := B2.at (i := 0) rfl
        have z1 := B2.at (i := 1) rfl
        have z2 := B2.at (i := 2) rfl
        have z3 := B2.at (i := 3) rfl
        have z4 := B2.at (i := 4) rfl
        have z5 := B2.at (i := 5) rfl
        have z6 := B2.at (i := 6) rfl
        have z7 := B2.at (i := 7) rfl
        have z8 := B2.at (i := 8) rfl
        have zf := fun j => B2.fr j
        have hown3 : (w2.setCell ⟨wr.heap.size, 2, none⟩ (.int .i64 pq)).ownsRow V2.heap.size 67 9 u8 m ((rplRow LT (x.take m)).flatMap insC) := own_ne_wa2 hown2 ((Wa.refl wr.heap.size w2).setAt 2 _) (fun b hb => by have := (hown.lt b hb).2; omega)
        have O3 : On V2 (w2.setCell ⟨wr.heap.size, 2, none⟩ (.int .i64 pq)) := (HV3.out.trans k12).setNew hsv2 _
        have ws : (w2.setCell ⟨wr.heap.size, 2, none⟩ (.int .i64 pq)).heap.size = w2.heap.size := size_set _ _ _
        clear hPl k2 kX bX hown2
        go_wp2_with (at_builtin; refine wpList_append_own _ rfl _ _ 68 rfl V2.heap.size 67 i1 zIns 9 72 Tryz.underlying68 hi1 y0 y1 y2 rfl (by decide) _ _ _ rfl (hown3.alloc _) ⟨w2.heap.size, 0, none⟩ 1 1 (insC ⟨y.k, y.r, pq, y.a, y.o, y.b, y.n⟩) rfl rfl ?c1 ?c2 ?c3 ?c4 ?c5 ?_)
        case c1 => have := news_at (w2.setCell ⟨wr.heap.size, 2, none⟩ (.int .i64 pq)) (insC ⟨y.k, y.r, pq, y.a, y.o, y.b, y.n⟩).toArray 67; rw [ws] at this; exact this
        case c2 => exact one_ins _
        case c3 => unfold maxLen; omega
        case c4 => omega
        case c5 => simp only [World.size_alloc, ws]; omega
        intro v' w4 hown4 hg4 _
        have O4 : Hid (On V2 w4) := (O3.alloc _).grown hg4 hblk
        have W4 : Hid (w4.ownsRow V2.heap.size 67 9 v' (m + 1) ((rplRow LT (x.take (m + 1))).flatMap insC)) := by
         show World.ownsRow _ _ _ _ _ _ _
         rw [← HS.out, List.flatMap_append]
         exact hown4
        clear hown4 hg4
        go_wp2
        go_roundg (x.length - (m + 1))
        case measure => omega
        case rel => exact ⟨m + 1, by omega, rfl, by go_num, O4, W4.out⟩
      ·
       obtain rfl : m = x.length := by omega
       rw [List.take_length] at hown
       obtain ⟨ar, cr, rfl⟩ := own_slice hown
       have hrl : (rplRow LT x).length = x.length := by unfold rplRow; simp
       have kA : ∀ T, On wr (wr.alloc T) := fun T => (On.refl wr).alloc T
       obtain ⟨vs, hvl, hov, hin⟩ := Own2.on HW.out HV3.out
       have hvn : ((THR.take n).map (rplRow LT)).length = n := by simp; omega
       rw [hvn] at hov hvl
       have blk : ∀ g, (Value.slice at3 n ct3).ownBlock = some g → w1.heap.size + 1 ≤ g := fun g hg => (hov.lt g hg).1
       have hov2 := fun T => own_on hov (kA T)
       clear rx
       go_wp2_with (at_builtin; refine wpList_append_own _ rfl _ _ 25 rfl (w1.heap.size + 1) 68 i0 (.slice none 0 0) 1 24 Tryz.underlying25 hi hz0 hz1 hz2 rfl (by decide) _ _ _ rfl (hov2 _) ⟨wr.heap.size, 0, none⟩ 1 1 [.slice ar x.length cr] rfl rfl ?c1 ?c2 ?c3 ?c4 ?c5 ?_)
       case c1 => exact news_at wr _ _
       case c2 => exact one_slice _ _ _
       case c3 => unfold maxLen; omega
       case c4 => omega
       case c5 => simp only [World.size_alloc]; omega
       intro v' w4 hown4 hg4 _
       obtain ⟨a5, c5, rfl⟩ := own_slice hown4
       have PB4 : Bk w4 w1.heap.size _ := (PBr.on (kA _)).grown hg4 (Nat.lt_succ_self _) blk
       have O4 : Hid (On w1 w4) := (kT.trans (kA _)).grown hg4 (fun g hg => Nat.le_of_succ_le (blk g hg))
       have I4 : Hid _ := own_far (own_on (own_on HI.out HV3.out) (kA _)) (hov2 _) ne8 hg4
       have W4 := Own2.snoc (C := insC) (k := 9) (L := rplRow LT x) (hvl.trans hvn.symm) (by rw [hvn]; exact hov2 _) (fun j u L hu hL => own_on (hin j u L hu hL) (kA _)) ne_thr hg4 (by rw [hvn]; exact hown4) (by rw [hrl]; exact own_mono (own_on hown (kA _)) (by omega))
       rw [HT.out] at W4
       have H4 : Hid _ := W4
       have r2 := PB4.at (i := 2) rfl
       have rf := fun j => PB4.fr j
       clear W4 hown4 hg4 hov hov2 hin hown
       go_wp2
       go_roundg (THR.length - (n + 1))
       case measure => omega
       case rel => exact ⟨n + 1, a5, c5, by omega, rfl, by go_num, O4.out.setNew (Nat.le_refl _) _, Bk.puts [.slice a5 (n + 1) c5] w4 [.slice al LT.length cl, .slice a LT.length c, .slice at3 n ct3] 2 PB4, own_set I4.out (Nat.lt_succ_self _) _ _, Own2.set H4.out (Nat.lt_succ_self _) _ _⟩
    ·
     obtain rfl : n = THR.length := by omega
     have H2 := HW.out
     rw [List.take_length] at H2
     have KO : On w V2 := K1.out.trans HO.out
     have RW : Hid (Own2 insC 9 68 67 V2 (w1.heap.size + 1) (.slice at3 THR.length ct3) (THR.map (rplRow LT))) := H2
     have q0 := PB.at (i := 0) rfl
     have q1 := PB.at (i := 1) rfl
     have q2 := PB.at (i := 2) rfl
     have ZB := ZB1.on HO.out
     have z0 := ZB.at (i := 0) rfl
     have z1 := ZB.at (i := 1) rfl
     have z2 := ZB.at (i := 2) rfl
     have zf := fun i => ZB.fr i
     have hne : w.heap.size + 1 < w1.heap.size + 1 := by omega
     have hil : (iniVals LT INI).length = LT.length := by unfold iniVals; simp
     clear H2 HW
     go_wp2
     refine bodyPost_ret (v := .agg #[.slice al LT.length cl, .slice a LT.length c, .slice at3 THR.length ct3]) ?_ rfl ⟨_, rfl, ?_, ?_⟩
     ·
      rw [results_cell rfl]
      go_simp
     ·
      have hput : ∀ {base : Nat} {k n : Nat} {e : TypeId} {v : Value} {xs : List Value} (W : World) (N : Nat) (ps : List Value) (o : Nat), (N < w.heap.size ∨ ps = []) → w.heap.size ≤ base → W.ownsRow base e k v n xs → (putCells W N o ps).ownsRow base e k v n xs := by
       intro base k n e v xs W N ps o hN hb hown
       rcases hN with h | rfl
       ·
        exact own_puts ps W o hown (by omega)
       ·
        exact hown
      have hput2 : ∀ {base : Nat} {v : Value} {LL : List (List InsT)} (W : World) (N : Nat) (ps : List Value) (o : Nat), (N < w.heap.size ∨ ps = []) → w.heap.size ≤ base → Own2 insC 9 68 67 W base v LL → Own2 insC 9 68 67 (putCells W N o ps) base v LL := by
       intro base v LL W N ps o hN hb hown
       rcases hN with h | rfl
       ·
        exact Own2.puts ps W o hown (by omega)
       ·
        exact hown
      intro N ps o hN
      refine ⟨al, cl, a, c, at3, ct3, by rw [hil, List.length_map], ?_, ?_, ?_⟩
      ·
       exact rd_bytes (hput _ N ps o hN (by omega) (own_puts [.slice al LT.length cl, .slice a LT.length c, .slice at3 THR.length ct3] V2 0 (own_on HLO.out HO.out) (Nat.lt_succ_self _)))
      ·
       rw [hil]
       refine (show Rd intC 1 _ (.slice a (iniVals LT INI).length c) (iniVals LT INI) from ?_) |> fun h => by rw [hil] at h; exact h
       refine Rd.own (C := intC) (k := 1) (fun _ => rfl) (base := w1.heap.size + 1) (e := 2) ?_
       rw [hil]
       exact hput _ N ps o hN (by omega) (own_puts [.slice al LT.length cl, .slice a LT.length c, .slice at3 THR.length ct3] V2 0 HI.out hne)
      ·
       rw [List.length_map]
       exact Own2.rd (fun _ => rfl) (hput2 _ N ps o hN (by omega) (Own2.puts [.slice al LT.length cl, .slice a LT.length c, .slice at3 THR.length ct3] V2 0 RW.out hne))
     ·
      repeat' (first | with_reducible refine On.setNew ?_ (by omega) _ | with_reducible exact KO)
end Go.Proofs.YtioiabfheeglgaaGreatDoor
