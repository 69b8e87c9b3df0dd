/- print.Test: a test's text. -/
import Derived.Test.YtlfeihgemdicfaaDoorTokT
import Derived.Test.YtlfeihgemdicfaaDoorBldW
import Derived.Test.YtlfeihgemdicfaaDoorOkW
import Derived.Test.YtlfeihgemdicfaaDoorJ00OkLeaf
namespace Go.Proofs.YtlfeihgemdicfaaDoor
open Go.RowKit

theorem On.below {w x y : World} {B : Nat} (h : On w x) (k : Below B x y) (hB : w.heap.size ≤ B) : On w y := Below.trans h (Below.mono k hB)
theorem Sr.oth {w w' : World} {base B : Nat} {v : Value} {L : List ByteArray} (h : Sr w base v L) (k : Oth B w w') (hB : B < base) : Sr w' base v L := by
  refine ⟨h.1, ?_⟩
  rcases h.2 with h2 | ⟨g, cap, cur, hv, hb, hh, r⟩
  · exact Or.inl h2
  · refine Or.inr ⟨g, cap, cur, hv, hb, k g _ hh (fun e => by have := Option.some.inj e; omega) (fun c fz e => ?_), r⟩
    simp only [Obj.cells.injEq] at e
    exact absurd e.2.1 (by decide)
theorem text_pre (L : List ByteArray) (i : Nat) (x : ByteArray) (hx : L[i]? = some x) : (L.take (i + 1)).flatMap chunk = (L.take i).flatMap chunk ++ chunk x := take_next chunk hx
theorem pre_le (L : List ByteArray) (i : Nat) : ((L.take i).flatMap chunk).length ≤ (L.flatMap chunk).length := by
  have : L.flatMap chunk = (L.take i).flatMap chunk ++ (L.drop i).flatMap chunk := by rw [← List.flatMap_append, List.take_append_drop]
  rw [this, List.length_append]
  omega
set_option maxHeartbeats 4000000 in
set_option maxRecDepth 8000 in
theorem ptest_is (t : TestT) (v : Value) (w : World) (lw : Lw w) (h : TestRd w v t) (hok : testOk t = true) (hB : TestB t) (hlen : (textL t).length ≤ 140737488355328) :
    Calls Tryd.prog 7 #[v] w fun e w' => e = .returned (.string ⟨(textL t).toArray⟩) ∧ On w w' := by
  have hOk := fun W (k : On w W) => ok_is t v W (lw.on k) (h.on k)
  obtain ⟨a1, c1, a2, c2, a3, c3, rfl, hn, r1, r2, r3⟩ := h.ex
  have hT := fun W (k : On w W) => testTokens_is t a1 a2 a3 c1 c2 c3 W (lw.on k) (r1.on k) (r2.on k) (r3.on k) hok hB
  rw [hok] at hOk
  have HL : Hid (∀ i, ((testTk t).take i).flatMap chunk = ((testTk t).take i).flatMap chunk) := fun _ => rfl
  have HPL : Hid (∀ i, (((testTk t).take i).flatMap chunk).length ≤ 140737488355328) := fun i => Nat.le_trans (pre_le _ i) hlen
  have hll : (testTk t).length ≤ 9223372036854775807 := by
    have h1 : ∀ L : List ByteArray, L.length ≤ (L.flatMap chunk).length := fun L => by
      induction L with
      | nil => simp
      | cons x L ih =>
        rw [List.flatMap_cons, List.length_append, List.length_cons]
        have : 1 ≤ (chunk x).length := by unfold chunk; simp
        omega
    have h2 := h1 (testTk t)
    unfold textL at hlen
    omega
  obtain ⟨RES, hRES⟩ : ∃ RES, RES = textL t := ⟨_, rfl⟩
  rw [← hRES]
  have HRES : Hid (RES = (testTk t).flatMap chunk) := hRES
  clear hRES h r1 r2 r3 hok hB lw hlen hn HL
  generalize testTk t = L at *
  generalize t.cond.any.length = m3 at *
  generalize t.cond.k = kk at *
  generalize t.thr.length = m2 at *
  generalize t.ini.length = m1 at *
  generalize t.name = nm at *
  have B0 := Bk.new w #[.string nm, .slice a1 m1 c1, .slice a2 m2 c2, .int .i64 kk, .slice a3 m3 c3] 29
  have k0 := (On.refl w).alloc (.cells #[.string nm, .slice a1 m1 c1, .slice a2 m2 c2, .int .i64 kk, .slice a3 m3 c3] 29)
  go_enter Tryd.func7, Tryd.ntmps7
  go_wp2_with fail
  refine (hOk _ k0).mono ?_
  rintro _ w1 ⟨rfl, k1⟩
  have K1 := k0.trans k1
  have B1 := B0.on k1
  have hs1 := B1.lt
  obtain ⟨W2, hW2⟩ : ∃ W2, W2 = w1.alloc (.cells #[.pointer none, .slice none 0 0] 59) := ⟨_, rfl⟩
  have hb2 : W2.heap[w1.heap.size]? = some (.cells #[.pointer none, .slice none 0 0] 59 (0, 0)) := by rw [hW2]; exact heap_alloc_new w1 _
  have B2 : Bk W2 w.heap.size #[.string nm, .slice a1 m1 c1, .slice a2 m2 c2, .int .i64 kk, .slice a3 m3 c3] := by rw [hW2]; exact B1.alloc _
  have K2 : On w W2 := by rw [hW2]; exact K1.alloc _
  have hz2 : W2.heap.size = w1.heap.size + 1 := by rw [hW2, World.size_alloc]
  have HW2 : Hid (W2 = w1.alloc (.cells #[.pointer none, .slice none 0 0] 59)) := hW2
  have x0 := B1.at (i := 0) rfl
  have x1 := B1.at (i := 1) rfl
  have x2 := B1.at (i := 2) rfl
  have x3 := B1.at (i := 3) rfl
  have x4 := B1.at (i := 4) rfl
  clear hW2 B0 k0 k1 hOk
  go_wp2_with fail
  rw [← HW2.out]
  clear HW2 x0 x1 x2 x3 x4 B1 B2
  refine (hT _ K2).mono ?_
  rintro _ w3 ⟨v3, rfl, r3, k3⟩
  obtain ⟨la, lc, rfl⟩ := own_slice r3
  have hb3 : w3.heap[w1.heap.size]? = some (.cells #[.pointer none, .slice none 0 0] 59 (0, 0)) := (k3.block _ (by omega)).trans hb2
  have HB3 : Hid (Bld w1.heap.size ([] : List UInt8) w3) := bld_new hb3
  have HR3 : Hid (Sr w3 W2.heap.size (.slice la L.length lc) L) := r3
  have HO3 : Hid (On w w3) := K2.trans k3
  have hz3 : w1.heap.size ≤ w3.heap.size := by have := k3.size; omega
  have hsw := K1.size
  clear hb2 hb3 r3 k3 hT K2 K1
  go_wp2
  go_loopg [12] L.length (fun gg s12 wr => ∃ i : Nat, i ≤ L.length ∧ gg = L.length - i ∧ s12 = .int .i64 i ∧ Hid (On w wr) ∧ Hid (Bld w1.heap.size ((L.take i).flatMap chunk) wr) ∧ Hid (Sr wr W2.heap.size (.slice la L.length lc) L) ∧ w1.heap.size ≤ wr.heap.size)
  case atStart => exact ⟨0, Nat.zero_le _, rfl, rfl, HO3, HB3, HR3, hz3⟩
  case round =>
    clear HO3 HB3 HR3 hz3
    obtain ⟨i, hi, hk, rfl, HO, HBL, HR, hz⟩ := hrel
    rcases Nat.lt_or_ge i L.length with hlt | hge
    · obtain ⟨x, hx⟩ : ∃ x, L[i]? = some x := ⟨_, List.getElem?_eq_getElem hlt⟩
      obtain ⟨g, cap, hv, _, _, hg, hc⟩ := own_cells HR.out (by omega)
      simp only [Value.slice.injEq] at hv
      obtain ⟨rfl, _, rfl⟩ := hv
      have hcx := hc i (.string x) (by rw [List.getElem?_map, hx]; rfl)
      have hpl := HPL.out (i + 1)
      rw [text_pre L i x hx, List.length_append] at hpl
      have hch : (chunk x).length = x.data.toList.length + 1 := by unfold chunk; rw [List.length_append]; rfl
      rw [hch] at hpl
      have hws := ws_is w1.heap.size _ x wr HBL.out (by omega) hz
      have HTP : Hid ((L.take (i + 1)).flatMap chunk = ((L.take i).flatMap chunk ++ x.data.toList) ++ [gapB x]) := by
        show _ = _
        rw [text_pre L i x hx]
        unfold chunk
        rw [List.append_assoc]
      have hgp := fun W => gap_is x W
      clear hc hx HBL
      go_wp2_with fail
      refine hws.mono ?_
      rintro _ w4 ⟨v4, rfl, hb4, kb4, ko4⟩
      have HO4 : On w w4 := HO.out.below kb4 hsw
      have HR4 : Sr w4 W2.heap.size _ L := HR.out.oth ko4 (by omega)
      have hz4 : w1.heap.size ≤ w4.heap.size := Nat.le_trans hz kb4.size
      have hwb := wb_is w1.heap.size _ (gapB x) w4 hb4 (by rw [List.length_append]; omega) hz4
      clear hws hcx kb4 ko4 HR HO hb4
      go_wp2_with fail
      refine (hgp _).mono ?_
      rintro _ w5 ⟨rfl, hw5⟩
      subst w5
      go_wp2_with fail
      refine hwb.mono ?_
      rintro _ w6 ⟨v6, rfl, hb6, kb6, ko6⟩
      have HO6 : Hid (On w w6) := HO4.below kb6 hsw
      have HR6 : Hid (Sr w6 W2.heap.size _ L) := HR4.oth ko6 (by omega)
      have hz6 : w1.heap.size ≤ w6.heap.size := Nat.le_trans hz4 kb6.size
      have HB6 : Hid (Bld w1.heap.size ((L.take (i + 1)).flatMap chunk) w6) := by rw [HTP.out]; exact hb6
      clear hwb hb6 kb6 ko6 HR4 HO4 HTP
      go_wp2
      go_roundg (L.length - (i + 1))
      case measure => omega
      case rel => exact ⟨i + 1, hlt, rfl, by congr 1, HO6, HB6, HR6, hz6⟩
    · obtain rfl : L.length = i := by omega
      have hb := HBL.out
      rw [List.take_of_length_le (Nat.le_refl _), ← HRES.out] at hb
      have hst := bstr_is w1.heap.size RES wr hb hz
      clear hb HBL HR
      go_wp2_with fail
      refine hst.mono ?_
      rintro _ w4 ⟨rfl, kb4⟩
      have HO4 : On w w4 := HO.out.below kb4 hsw
      go_wp2
      go_ret
      exact ⟨rfl, HO4⟩
end Go.Proofs.YtlfeihgemdicfaaDoor

namespace Go.Proofs.YtlfeihgemdicfaaDoor

/-- The number at a place, its lowest bits. -/
def nxtV (l : List Int) (i : Nat) : Nat := (l.getD i 0 % 65536).toNat
theorem nxtV_lt (l : List Int) (i : Nat) : nxtV l i < 65536 := by unfold nxtV; omega
def opdOf (x : Nat) : Opd := if x / 256 % 3 = 0 then ⟨(x / 1024 % 2 : Nat), 0⟩ else ⟨-1, (x / 64 % 3 : Nat)⟩
def locOf (locs x : Nat) : Int := (120 + x / 16 % locs : Nat)
def regOf (x : Nat) : Int := (x / 2048 % 2 : Nat)
def insOf (locs x : Nat) : List InsT :=
  if x % 12 < 4 then [⟨1, 0, locOf locs x, opdOf x, 0, ⟨0, 0⟩, 0⟩]
  else if x % 12 < 8 then [⟨2, regOf x, locOf locs x, ⟨0, 0⟩, 0, ⟨0, 0⟩, 0⟩]
  else if x % 12 = 8 then [⟨3, 0, 0, ⟨0, 0⟩, 0, ⟨0, 0⟩, 0⟩]
  else if x % 12 = 9 then [⟨4, regOf x, locOf locs x, opdOf x, 0, ⟨-1, 1⟩, 0⟩]
  else if x % 12 = 10 then [⟨5, regOf x, 0, opdOf x, 6, ⟨-1, 1⟩, 0⟩]
  else [⟨6, 0, 0, opdOf x, 0, ⟨-1, 0⟩, 1⟩, ⟨1, 0, locOf locs x, ⟨-1, 2⟩, 0, ⟨0, 0⟩, 0⟩]
def memOf (x : Nat) : Nat := if x % 12 = 8 ∨ x % 12 = 10 then 0 else 1
/-- A thread: its instructions, the next number's place, how often memory was touched. -/
def rowFrom (l : List Int) (most locs : Nat) : Nat → Nat → Nat → List InsT × Nat × Nat
  | 0, at', mem => ([], at', mem)
  | k + 1, at', mem =>
    if mem < most then (insOf locs (nxtV l at') ++ (rowFrom l most locs k (at' + 1) (mem + memOf (nxtV l at'))).1, (rowFrom l most locs k (at' + 1) (mem + memOf (nxtV l at'))).2)
    else ([], at', mem)
def thrFrom (l : List Int) (most locs : Nat) : Nat → Nat → Nat → List (List InsT) × Nat
  | 0, at', _ => ([], at')
  | n + 1, at', mem =>
    ((rowFrom l most locs (nxtV l at' % 3 + 1) (at' + 1) mem).1 :: (thrFrom l most locs n (rowFrom l most locs (nxtV l at' % 3 + 1) (at' + 1) mem).2.1 (rowFrom l most locs (nxtV l at' % 3 + 1) (at' + 1) mem).2.2).1,
      (thrFrom l most locs n (rowFrom l most locs (nxtV l at' % 3 + 1) (at' + 1) mem).2.1 (rowFrom l most locs (nxtV l at' % 3 + 1) (at' + 1) mem).2.2).2)
def anyOf (x : Nat) : List (List AtomT) := [[⟨0, (x / 8 % 2 : Nat), 0, (x / 16 % 2 : Nat)⟩], [⟨-1, 0, 120, (x / 32 % 3 : Nat)⟩, ⟨1, 0, 0, (x / 128 % 2 : Nat)⟩]]
def condOf (x : Nat) : CondT := if x % 3 = 0 then ⟨(x / 3 % 2 + 1 : Nat), anyOf x⟩ else ⟨0, []⟩
def iniOf (l : List Int) : List InitT := if nxtV l 2 % 4 = 0 then [⟨120, (nxtV l 3 % 3 : Nat)⟩] else []
def iniTo (l : List Int) : Nat := if nxtV l 2 % 4 = 0 then 4 else 3
def thrOf (l : List Int) (most : Nat) : List (List InsT) × Nat := thrFrom l most (nxtV l 1 % 2 + 2) (nxtV l 0 % 2 + 2) (iniTo l) 0
def smallP (l : List Int) (most : Nat) : TestT := ⟨⟨#[116]⟩, iniOf l, (thrOf l most).1, condOf (nxtV l (thrOf l most).2)⟩

/-- Letters x, y, z alone. -/
def xyz (l : Int) : Prop := l = 0 ∨ l = 120 ∨ l = 121 ∨ l = 122
theorem locOf_xyz {locs : Nat} (h : locs = 2 ∨ locs = 3) (x : Nat) : xyz (locOf locs x) ∧ locOk (locOf locs x) = true := by
  unfold locOf xyz locOk
  rcases h with rfl | rfl <;> refine ⟨by omega, ?_⟩ <;> simp <;> omega
theorem opdOf_ok (x : Nat) : opdOk (opdOf x) = true := by
  unfold opdOf opdOk regOk
  split <;> simp <;> omega
theorem regOf_ok (x : Nat) : regOk (regOf x) = true := by
  unfold regOf regOk; simp; omega
theorem insOf_ok {locs : Nat} (h : locs = 2 ∨ locs = 3) (x : Nat) : (insOf locs x).all insOk = true ∧ (insOf locs x).length ≤ 2 ∧ (∀ i ∈ insOf locs x, xyz i.l) := by
  have hl := locOf_xyz h x
  have ho := opdOf_ok x
  have hr := regOf_ok x
  have h12 : opdOk ⟨-1, 1⟩ = true := by decide
  have h10 : opdOk ⟨-1, 0⟩ = true := by decide
  have h22 : opdOk ⟨-1, 2⟩ = true := by decide
  have hs : secOk 6 ⟨-1, 1⟩ = true := by decide
  have x0 : xyz 0 := Or.inl rfl
  unfold insOf
  repeat' split
  all_goals simp [insOk, hl, ho, hr, h12, h10, h22, hs, x0]
theorem insOf_skip {locs : Nat} (x : Nat) (r : List InsT) (h : skipBad r = false) : skipBad (insOf locs x ++ r) = false := by
  unfold insOf
  repeat' split
  all_goals simp [skipBad, h]
  omega
theorem rowFrom_ok (l : List Int) (most : Nat) {locs : Nat} (h : locs = 2 ∨ locs = 3) : ∀ k at' mem, ((rowFrom l most locs k at' mem).1.all insOk = true ∧ (rowFrom l most locs k at' mem).1.length ≤ 2 * k ∧ (∀ i ∈ (rowFrom l most locs k at' mem).1, xyz i.l)) ∧ skipBad (rowFrom l most locs k at' mem).1 = false
  | 0, at', mem => by simp [rowFrom, skipBad]
  | k + 1, at', mem => by
    unfold rowFrom
    split
    · obtain ⟨⟨a, b, c⟩, d⟩ := rowFrom_ok l most h k (at' + 1) (mem + memOf (nxtV l at'))
      obtain ⟨a', b', c'⟩ := insOf_ok h (nxtV l at')
      refine ⟨⟨by simp only [List.all_append, a, a', Bool.and_self], by simp only [List.length_append]; omega, fun i hi => ?_⟩, insOf_skip _ _ d⟩
      rcases List.mem_append.1 hi with hi | hi
      · exact c' i hi
      · exact c i hi
    · simp [skipBad]
theorem thrFrom_ok (l : List Int) (most : Nat) {locs : Nat} (h : locs = 2 ∨ locs = 3) : ∀ n at' mem, (thrFrom l most locs n at' mem).1.length = n ∧ ∀ L ∈ (thrFrom l most locs n at' mem).1, (L.all insOk = true ∧ L.length ≤ 6 ∧ (∀ i ∈ L, xyz i.l)) ∧ skipBad L = false
  | 0, at', mem => by simp [thrFrom]
  | n + 1, at', mem => by
    unfold thrFrom
    obtain ⟨ih1, ih2⟩ := thrFrom_ok l most h n (rowFrom l most locs (nxtV l at' % 3 + 1) (at' + 1) mem).2.1 (rowFrom l most locs (nxtV l at' % 3 + 1) (at' + 1) mem).2.2
    obtain ⟨⟨a, b, c⟩, d⟩ := rowFrom_ok l most h (nxtV l at' % 3 + 1) (at' + 1) mem
    refine ⟨by simp [ih1], fun L hL => ?_⟩
    rcases List.mem_cons.1 hL with rfl | hL
    · exact ⟨⟨a, by omega, c⟩, d⟩
    · exact ih2 L hL

/-- No letter but x, y, z. -/
def hiN (n : Nat) : Prop := ∃ a, a < 8 ∧ n = a * 8388608
theorem withL_hi {n : Nat} (h : hiN n) {l : Int} (hl : xyz l) : hiN (withL n l) := by
  obtain ⟨a, ha, rfl⟩ := h
  have key : ∀ (a : Fin 8), hiN (a.val * 8388608 ||| 8388608) ∧ hiN (a.val * 8388608 ||| 16777216) ∧ hiN (a.val * 8388608 ||| 33554432) := by
    have : ∀ (a : Fin 8), (∃ b : Fin 8, (a.val * 8388608 ||| 8388608) = b.val * 8388608) ∧ (∃ b : Fin 8, (a.val * 8388608 ||| 16777216) = b.val * 8388608) ∧ (∃ b : Fin 8, (a.val * 8388608 ||| 33554432) = b.val * 8388608) := by decide +kernel
    intro a
    obtain ⟨⟨b, hb⟩, ⟨c, hc⟩, ⟨d, hd⟩⟩ := this a
    exact ⟨⟨b, b.2, hb⟩, ⟨c, c.2, hc⟩, ⟨d, d.2, hd⟩⟩
  obtain ⟨k1, k2, k3⟩ := key ⟨a, ha⟩
  have e1 : (2 : Nat) ^ ((120 : Int) - 97).toNat = 8388608 := by decide
  have e2 : (2 : Nat) ^ ((121 : Int) - 97).toNat = 16777216 := by decide
  have e3 : (2 : Nat) ^ ((122 : Int) - 97).toNat = 33554432 := by decide
  rcases hl with rfl | rfl | rfl | rfl
  · exact ⟨a, ha, by unfold withL; rw [if_neg (by decide)]⟩
  · unfold withL; rw [if_pos (by decide), e1]; exact k1
  · unfold withL; rw [if_pos (by decide), e2]; exact k2
  · unfold withL; rw [if_pos (by decide), e3]; exact k3
theorem foldHi {α : Type} (f : α → Int) : ∀ (L : List α) (n : Nat), hiN n → (∀ x ∈ L, xyz (f x)) → hiN (L.foldl (fun n x => withL n (f x)) n)
  | [], _, h, _ => h
  | x :: L, n, h, hL => foldHi f L _ (withL_hi h (hL x (by simp))) (fun y hy => hL y (by simp [hy]))
theorem foldHi2 {α : Type} (f : α → Int) : ∀ (LL : List (List α)) (n : Nat), hiN n → (∀ L ∈ LL, ∀ x ∈ L, xyz (f x)) → hiN (LL.foldl (fun n L => L.foldl (fun n x => withL n (f x)) n) n)
  | [], _, h, _ => h
  | L :: LL, n, h, hL => foldHi2 f LL _ (foldHi f L n h (hL L (by simp))) (fun M hM => hL M (by simp [hM]))
theorem cnt_hi {n : Nat} (h : hiN n) : cntN n ≤ 3 := by
  obtain ⟨a, ha, rfl⟩ := h
  have : ∀ a : Fin 8, cntN (a.val * 8388608) ≤ 3 := by decide +kernel
  exact this ⟨a, ha⟩
theorem sumL_le : ∀ (LL : List (List InsT)) (m n : Nat), (∀ L ∈ LL, L.length ≤ m) → LL.foldl (fun n L => n + L.length) n ≤ n + m * LL.length
  | [], m, n, _ => by simp
  | L :: LL, m, n, h => by
    have := sumL_le LL m (n + L.length) (fun M hM => h M (by simp [hM]))
    have h1 := h L (by simp)
    simp only [List.foldl_cons, List.length_cons, Nat.mul_add, Nat.mul_one]
    omega

section
variable (l : List Int) (most : Nat)
theorem iniOf_ok : (iniOf l).all initOk = true ∧ (iniOf l).length ≤ 1 ∧ (∀ i ∈ iniOf l, xyz i.l) := by
  unfold iniOf; split <;> simp [initOk, locOk, xyz]
theorem condOf_ok (x : Nat) : condOk (condOf x) = true ∧ (∀ L ∈ (condOf x).any, ∀ i ∈ L, xyz i.l) := by
  unfold condOf anyOf
  split
  · refine ⟨?_, ?_⟩
    · simp [condOk, rowOk, atomOk, regOk, locOk]
      omega
    · simp [xyz]
  · simp [condOk]
theorem thrOf_ok : (thrOf l most).1.length = nxtV l 0 % 2 + 2 ∧ ∀ L ∈ (thrOf l most).1, (L.all insOk = true ∧ L.length ≤ 6 ∧ (∀ i ∈ L, xyz i.l)) ∧ skipBad L = false :=
  thrFrom_ok l most (by omega) _ _ _
/-- It may be. -/
theorem small_ok : testOk (smallP l most) = true := by
  obtain ⟨h1, h2⟩ := thrOf_ok l most
  unfold testOk smallP
  have hw : wordOk ⟨#[116]⟩ = true := by decide
  simp only [hw, (iniOf_ok l).1, (condOf_ok _).1, Bool.and_true, Bool.true_and, List.all_eq_true]
  intro L hL
  exact (h2 L hL).1.1
theorem small_locs : hiN (locsN (smallP l most)) := by
  unfold locsN smallP
  refine foldHi2 (fun x : AtomT => x.l) _ _ (foldHi2 (fun x : InsT => x.l) _ _ (foldHi (fun x : InitT => x.l) _ _ ⟨0, by omega, rfl⟩ (iniOf_ok l).2.2) ?_) ?_
  · exact fun L hL => ((thrOf_ok l most).2 L hL).1.2.2
  · exact (condOf_ok _).2
theorem big_thr (LL : List (List InsT)) (h1 : 1 ≤ LL.length) (h3 : LL.length ≤ 3) (h : ∀ L ∈ LL, L.length ≤ 6) : thrBig LL = false := by
  have hs : sumL LL ≤ 0 + 6 * LL.length := sumL_le LL 6 0 h
  have ha : LL.any (fun L => decide (10 < L.length)) = false := by
    rw [List.any_eq_false]
    intro L hL
    have := h L hL
    simp; omega
  unfold thrBig
  rw [ha]
  simp
  exact ⟨⟨by intro h; subst h; simp at h1, by omega⟩, by omega⟩
/-- It is small enough. -/
theorem small_check : checkT (smallP l most) = 0 := by
  obtain ⟨h1, h2⟩ := thrOf_ok l most
  have hb : bigT (smallP l most) = false := by
    have hc := cnt_hi (small_locs l most)
    unfold bigT
    have e1 : thrBig (smallP l most).thr = false := big_thr _ (by show 1 ≤ (thrOf l most).1.length; omega) (by show (thrOf l most).1.length ≤ 3; omega) (fun L hL => (h2 L hL).1.2.1)
    have e2 : condBig (smallP l most).cond.any = false := by
      show condBig (condOf _).any = false
      unfold condOf anyOf
      split <;> rfl
    have e3 : decide (20 < (smallP l most).name.size) = false := rfl
    rw [e1, e2, e3]
    simp
    omega
  have ht : twiceFrom 0 (smallP l most).ini = false := by
    show twiceFrom 0 (iniOf l) = false
    unfold iniOf
    split <;> simp [twiceFrom, withL]
  have hn : nowhere (smallP l most) = false := by
    unfold nowhere
    have e1 : (smallP l most).thr.any skipBad = false := by
      rw [List.any_eq_false]
      intro L hL
      rw [(h2 L hL).2]
      simp
    rw [e1]
    show (false || (condOf _).any.any fun L => L.any (farAtom (thrOf l most).1.length)) = false
    unfold condOf anyOf
    split
    · simp [farAtom, h1]; omega
    · simp
  unfold checkT
  rw [small_ok, hb, ht, hn]
  rfl
end
end Go.Proofs.YtlfeihgemdicfaaDoor
