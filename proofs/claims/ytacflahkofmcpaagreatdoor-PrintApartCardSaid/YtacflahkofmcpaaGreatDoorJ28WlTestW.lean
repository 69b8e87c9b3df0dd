/- print.isWord for every text. -/
import Derived.Test.YtacflahkofmcpaaGreatDoorJ09WlOwnR
import Derived.Test.YtacflahkofmcpaaGreatDoorJ13WlOkLeaf
import Derived.Deep.LoopGhost
import Derived.Laws.IdiomStrings
import Derived.Test.YtacflahkofmcpaaGreatDoorWlAllB
import Derived.Test.YtacflahkofmcpaaGreatDoorWlAllC
import Derived.Test.YtacflahkofmcpaaGreatDoorJ17WlTokT
import Derived.Test.YtacflahkofmcpaaGreatDoorWlBldW
namespace Go.Proofs.YtacflahkofmcpaaGreatDoor.Wl
open Go.RowKit

theorem chs_at : ∀ (l : List UInt8) (i n : Nat) (c : UInt8), l[n]? = some c → chsOk i l = true → chOk (i + n) c = true
  | [], i, n, c, h, _ => by simp at h
  | x :: l, i, 0, c, h, hk => by
    simp only [List.getElem?_cons_zero, Option.some.injEq] at h
    subst h
    unfold chsOk at hk
    simp only [Bool.and_eq_true] at hk
    exact hk.1
  | x :: l, i, n + 1, c, h, hk => by
    rw [List.getElem?_cons_succ] at h
    unfold chsOk at hk
    simp only [Bool.and_eq_true] at hk
    have := chs_at l (i + 1) n c h hk.2
    rwa [show i + 1 + n = i + (n + 1) by omega] at this
theorem chs_all : ∀ (l : List UInt8) (i : Nat), (∀ n c, l[n]? = some c → chOk (i + n) c = true) → chsOk i l = true
  | [], _, _ => rfl
  | x :: l, i, h => by
    unfold chsOk
    rw [show chOk i x = true from h 0 x rfl, chs_all l (i + 1) (fun n c hn => by
      have := h (n + 1) c (by rw [List.getElem?_cons_succ]; exact hn)
      rwa [show i + (n + 1) = i + 1 + n by omega] at this)]
    rfl
theorem word_no {s : ByteArray} {n : Nat} {c : UInt8} (h : s.data.toList[n]? = some c) (hc : chOk n c = false) : wordOk s = false := by
  unfold wordOk
  cases hk : chsOk 0 s.data.toList with
  | true => have := chs_at _ 0 n c h hk; rw [Nat.zero_add, hc] at this; cases this
  | false => rfl
theorem toList_nil {s : ByteArray} (h : s.size = 0) : s.toList = [] := by
  rw [ByteArray.toList_eq]
  exact List.eq_nil_of_length_eq_zero (by rw [Array.length_toList]; exact h)
theorem toList_ne {s : ByteArray} (h : 0 < s.size) : ¬ s.toList = [] := by
  rw [ByteArray.toList_eq]
  intro h'
  have := congrArg List.length h'
  rw [Array.length_toList] at this
  have h2 : s.data.size = 0 := this
  have h3 : s.size = s.data.size := rfl
  omega
set_option maxHeartbeats 4000000 in
set_option maxRecDepth 8000 in
theorem isWord_is (s : ByteArray) (w : World) (hs : s.size ≤ 9223372036854775807) :
    Calls Tryz.prog 55 #[.string s] w fun e w' => e = .returned (.bool (wordOk s)) ∧ On w w' := by
  obtain ⟨cap, W, hconv, hW, hcell⟩ : ∃ cap W, (convert 9 41 (.string s)).run Tryz.prog w = .ok (.slice (some ⟨w.heap.size, 0, none⟩) s.size cap) W ∧ On w W ∧ (∀ j (hj : j < s.data.size), W.cell? ⟨w.heap.size, j, none⟩ = some (.int .u8 (s.data[j].toNat : Int))) := by
    refine ⟨_, _, run_bytes_of_string w _ _ 5 s Tryz.underlying9 Tryz.underlying41 Tryz.underlying5, (On.refl w).drew.alloc _, fun j hj => ?_⟩
    have := World.cell?_alloc_mark w.drew (bytesRow s (grownCap w s.size 0 5)) 5 ((bytesRow s (grownCap w s.size 0 5)).size, (bytesRow s (grownCap w s.size 0 5)).size + 1) j
    exact this.trans (bytesRow_at s _ j hj)
  have hwW : w.heap.size < W.heap.size ∨ s.data.size = 0 := by
    rcases Nat.eq_zero_or_pos s.data.size with h | h
    · exact Or.inr h
    · left
      have := hcell 0 h
      rcases Nat.lt_or_ge w.heap.size W.heap.size with h' | h'
      · exact h'
      · simp [World.cell?, Array.getElem?_eq_none h'] at this
  have HC : Hid _ := hcell
  have HW : Hid (On w W) := hW
  clear hcell hW
  go_enter Tryz.func55, Tryz.ntmps55
  go_wp2
  clear hconv
  go_loopg [3, 4, 5, 9] s.size (fun gg _ _ _ s9 wr => ∃ n : Nat, n ≤ s.size ∧ gg = s.size - n ∧ s9 = .int .i64 n ∧ wr = W ∧ Hid (∀ j c, j < n → s.data.toList[j]? = some c → chOk j c = true))
  case atStart => exact ⟨0, Nat.zero_le _, rfl, rfl, rfl, fun j c hj => absurd hj (Nat.not_lt_zero _)⟩
  case round =>
    obtain ⟨n, hn, hk, rfl, rfl, hall⟩ := hrel
    rcases Nat.lt_or_ge n s.size with hlt | hge
    · have hsz : s.size = s.data.size := rfl
      obtain ⟨c, hc⟩ : ∃ c, c = s.data[n]'(by omega) := ⟨_, rfl⟩
      have hx : Hid (s.data.toList[n]? = some c) := by
        show s.data.toList[n]? = some c
        rw [hc, List.getElem?_eq_getElem (by simpa using hlt)]; simp
      have u0 : wr.cell? ⟨w.heap.size, n, none⟩ = some (.int .u8 (c.toNat : Int)) := by rw [hc]; exact HC.out n (by omega)
      have hlw : w.heap.size < wr.heap.size := by omega
      have hcb : (c.toNat : Int) < 256 := by have := c.toNat_lt; omega
      have hlo := fun W => isLocation_is (c.toNat : Int) W
      clear hc hsz
      have step : ∀ (h : chOk n c = true), Hid (∀ j c', j < n + 1 → s.data.toList[j]? = some c' → chOk j c' = true) := fun h j c' hj hj' => by
        rcases Nat.lt_or_ge j n with h' | h'
        · exact hall.out j c' h' hj'
        · obtain rfl : j = n := by omega
          rw [hx.out] at hj'
          cases hj'
          exact h
      have hch : Hid (chOk n c = (locOk c.toNat || (decide (0 < n) && (decide (48 ≤ c.toNat) && decide (c.toNat ≤ 57))))) := rfl
      cases hl : locOk (c.toNat : Int) with
      | true =>
        rw [hl] at hlo
        have hok : Hid (chOk n c = true) := by rw [Hid, hch.out, hl]; rfl
        by_cases h48 : (48 : Int) ≤ c.toNat
        all_goals
          go_wp2_with (go_at_call 95; refine (hlo _).mono ?_; rintro e w1 ⟨rfl, rfl⟩)
          go_roundg (s.size - (n + 1))
          case measure => omega
          case rel => exact ⟨n + 1, by omega, rfl, by go_num, rfl, step hok.out⟩
      | false =>
        rw [hl] at hlo
        rcases Nat.eq_zero_or_pos n with h0 | h0
        · subst h0
          have hno : Hid (wordOk s = false) := word_no hx.out (by rw [hch.out, hl]; rfl)
          by_cases h48 : (48 : Int) ≤ c.toNat
          all_goals
            go_wp2_with (go_at_call 95; refine (hlo _).mono ?_; rintro e w1 ⟨rfl, rfl⟩)
            go_ret
            exact ⟨by rw [hno.out]; rfl, HW.out⟩
        · have hn0 : ¬ (n : Int) = 0 := by omega
          by_cases h48 : (48 : Int) ≤ c.toNat
          · by_cases h57 : (c.toNat : Int) ≤ 57
            · have hok : Hid (chOk n c = true) := by
                rw [Hid, hch.out]; simp; right; omega
              go_wp2_with (go_at_call 95; refine (hlo _).mono ?_; rintro e w1 ⟨rfl, rfl⟩)
              go_roundg (s.size - (n + 1))
              case measure => omega
              case rel => exact ⟨n + 1, by omega, rfl, by go_num, rfl, step hok.out⟩
            · have hno : Hid (wordOk s = false) := word_no hx.out (by rw [hch.out, hl]; simp; omega)
              go_wp2_with (go_at_call 95; refine (hlo _).mono ?_; rintro e w1 ⟨rfl, rfl⟩)
              go_ret
              exact ⟨by rw [hno.out]; rfl, HW.out⟩
          · have hno : Hid (wordOk s = false) := word_no hx.out (by rw [hch.out, hl]; simp; omega)
            go_wp2_with (go_at_call 95; refine (hlo _).mono ?_; rintro e w1 ⟨rfl, rfl⟩)
            go_ret
            exact ⟨by rw [hno.out]; rfl, HW.out⟩
    · have hyes : Hid (wordOk s = decide (0 < s.size)) := by
        show wordOk s = _
        unfold wordOk
        rw [chs_all _ 0 (fun j c hj => by
          rw [Nat.zero_add]
          refine hall.out j c ?_ hj
          have := (List.getElem?_eq_some_iff.1 hj).1
          have hsz : s.size = s.data.size := rfl
          simp at this; omega)]
        rfl
      rcases Nat.eq_zero_or_pos s.size with h0 | h0
      · have he := toList_nil h0
        go_wp2
        go_ret
        exact ⟨by rw [hyes.out]; simp [h0], HW.out⟩
      · have he := toList_ne h0
        go_wp2
        go_ret
        exact ⟨by rw [hyes.out, decide_eq_true h0]; simp [he], HW.out⟩
end Go.Proofs.YtacflahkofmcpaaGreatDoor.Wl

namespace Go.Proofs.YtacflahkofmcpaaGreatDoor.Wl
open Go.RowKit

set_option maxHeartbeats 1000000 in
set_option maxRecDepth 8000 in
theorem okCond_is (c : CondT) (a : Option Addr) (cc : Nat) (w : World) (h : Rd2 atomC 4 w (.slice a c.any.length cc) c.any) :
    Calls Tryz.prog 60 #[.agg #[.int .i64 c.k, .slice a c.any.length cc]] w fun e w' => e = .returned (.bool (condOk c)) ∧ On w w' := by
  obtain ⟨k, LL⟩ := c
  have hI := fun T => allRow_is LL a cc (w.alloc T) (h.on ((On.refl w).alloc T))
  obtain ⟨_, _, _, _, hm⟩ := h.slice
  unfold condOk
  simp only at hI hm ⊢
  generalize LL.all rowOk = b at hI ⊢
  clear h
  have hl : (LL.length == 0) = decide (LL.length = 0) := rfl
  by_cases h0 : k = 0
  · subst h0
    rcases Nat.eq_zero_or_pos LL.length with hz | hz
    · rw [hz]
      go_enter Tryz.func60, Tryz.ntmps60
      go_wp2
      go_ret
      exact ⟨rfl, (On.refl w).alloc _⟩
    · have hz' : ((LL.length : Int) == 0) = false := by simpa using (by omega : ¬ (LL.length : Int) = 0)
      have hz2 : (LL.length == 0) = false := by rw [hl]; exact decide_eq_false (by omega)
      have e1 : (if (0 : Int) == 0 then LL.length == 0 else if (0 : Int) == 1 || (0 : Int) == 2 then decide (0 < LL.length) && b else false) = false := by rw [hz2]; rfl
      rw [e1]
      clear e1 hz2 hl
      go_enter Tryz.func60, Tryz.ntmps60
      go_wp2
      go_ret
      exact ⟨rfl, (On.refl w).alloc _⟩
  · have b0 : (k == 0) = false := by simpa using h0
    by_cases h12 : k = 1 ∨ k = 2
    · have b1 : (k == 1 || k == 2) = true := by simpa using h12
      have e1 : (if k == 0 then LL.length == 0 else if k == 1 || k == 2 then decide (0 < LL.length) && b else false) = (decide (0 < LL.length) && b) := by rw [b0, b1]; rfl
      rw [e1]
      clear e1 b1 hl
      rcases Nat.eq_zero_or_pos LL.length with hz | hz
      · rw [hz]
        rcases h12 with rfl | rfl
        all_goals
          go_enter Tryz.func60, Tryz.ntmps60
          go_wp2
          go_ret
          exact ⟨rfl, (On.refl w).alloc _⟩
      · rw [decide_eq_true hz]
        rcases h12 with rfl | rfl
        all_goals
          go_enter Tryz.func60, Tryz.ntmps60
          go_wp2_with (go_at_call 101; refine (hI _).mono ?_; rintro e w1 ⟨rfl, k1⟩)
          go_ret
          exact ⟨rfl, ((On.refl w).alloc _).trans k1⟩
    · have h1 : ¬ k = 1 := fun h => h12 (Or.inl h)
      have h2 : ¬ k = 2 := fun h => h12 (Or.inr h)
      have b1 : (k == 1) = false := by simpa using h1
      have b2 : (k == 2) = false := by simpa using h2
      go_enter Tryz.func60, Tryz.ntmps60
      go_wp2
      go_ret
      exact ⟨by simp, (On.refl w).alloc _⟩

set_option maxHeartbeats 2000000 in
set_option maxRecDepth 8000 in
theorem ok_is (t : TestT) (v : Value) (w : World) (lw : Lw w) (h : TestRd w v t) :
    Calls Tryz.prog 18 #[v] w fun e w' => e = .returned (.bool (testOk t)) ∧ On w w' := by
  obtain ⟨a1, c1, a2, c2, a3, c3, rfl, hn, r1, r2, r3⟩ := h.ex
  clear h
  have hW := fun W => isWord_is t.name W hn
  have hI := fun W (k : On w W) => allIni_is t.ini a1 c1 W (r1.on k)
  have hT := fun W (k : On w W) => allThr_is t.thr a2 c2 W (lw.on k) (r2.on k)
  have hC := fun W (k : On w W) => okCond_is t.cond a3 c3 W (r3.on k)
  have k0 : ∀ T, On w (w.alloc T) := fun T => (On.refl w).alloc T
  have bk : ∀ cs T, Bk (w.alloc (.cells cs T)) w.heap.size cs := fun cs T => Bk.new w cs T
  unfold testOk
  clear r1 r2 r3 lw hn
  generalize t.ini.all initOk = b2 at hI ⊢
  generalize t.thr.all threadOk = b3 at hT ⊢
  generalize condOk t.cond = b4 at hC ⊢
  generalize wordOk t.name = b1 at hW ⊢
  generalize t.ini.length = m1 at hI ⊢
  generalize t.thr.length = m2 at hT ⊢
  generalize t.cond.any.length = m3 at hC ⊢
  generalize t.cond.k = kk at hC ⊢
  generalize t.name = nm at hW ⊢
  cases b1 with
  | false =>
    go_enter Tryz.func18, Tryz.ntmps18
    go_wp2_with (go_at_call 55; refine (hW _).mono ?_; rintro e w1 ⟨rfl, k1⟩)
    go_ret
    exact ⟨rfl, (k0 _).trans k1⟩
  | true =>
    go_enter Tryz.func18, Tryz.ntmps18
    go_wp2_with fail
    refine (hW _).mono ?_
    rintro e w1 ⟨rfl, k1⟩
    have B1 := (bk _ _).on k1
    have K1 : Hid (On w w1) := (k0 _).trans k1
    have x1 := B1.at (i := 1) rfl
    have s1 := B1.lt
    clear hW k1 bk k0
    cases b2 with
    | false =>
      go_wp2_with (go_at_call 56; refine (hI _ K1.out).mono ?_; rintro e w2 ⟨rfl, k2⟩)
      go_ret
      exact ⟨rfl, K1.out.trans k2⟩
    | true =>
      go_wp2_with fail
      refine (hI _ K1.out).mono ?_
      rintro e w2 ⟨rfl, k2⟩
      have B2 := B1.on k2
      have K2 : Hid (On w w2) := K1.out.trans k2
      have x2 := B2.at (i := 2) rfl
      have s2 := B2.lt
      clear hI k2 K1 B1 x1 s1
      cases b3 with
      | false =>
        go_wp2_with (go_at_call 58; refine (hT _ K2.out).mono ?_; rintro e w3 ⟨rfl, k3⟩)
        go_ret
        exact ⟨rfl, K2.out.trans k3⟩
      | true =>
        go_wp2_with fail
        refine (hT _ K2.out).mono ?_
        rintro e w3 ⟨rfl, k3⟩
        have B3 := B2.on k3
        have K3 : Hid (On w w3) := K2.out.trans k3
        have x3 := B3.at (i := 3) rfl
        have x4 := B3.at (i := 4) rfl
        have s3 := B3.lt
        clear hT k3 K2 B2 x2 s2
        go_wp2_with (go_at_call 60; refine (hC _ K3.out).mono ?_; rintro e w4 ⟨rfl, k4⟩)
        go_ret
        exact ⟨rfl, K3.out.trans k4⟩
end Go.Proofs.YtacflahkofmcpaaGreatDoor.Wl

namespace Go.Proofs.YtacflahkofmcpaaGreatDoor.Wl
open Go.RowKit

theorem On.below {w x y : World} {B : Nat} (h : On w x) (k : Below B x y) (hB : w.heap.size ≤ B) : On w y := Below.trans h (Below.mono k hB)
theorem Sr.oth {w w' : World} {base B : Nat} {v : Value} {L : List ByteArray} (h : Sr w base v L) (k : Oth B w w') (hB : B < base) : Sr w' base v L := by
  refine ⟨h.1, ?_⟩
  rcases h.2 with h2 | ⟨g, cap, cur, hv, hb, hh, r⟩
  · exact Or.inl h2
  · refine Or.inr ⟨g, cap, cur, hv, hb, k g _ hh (fun e => by have := Option.some.inj e; omega) (fun c fz e => ?_), r⟩
    simp only [Obj.cells.injEq] at e
    exact absurd e.2.1 (by decide)
theorem text_pre (L : List ByteArray) (i : Nat) (x : ByteArray) (hx : L[i]? = some x) : (L.take (i + 1)).flatMap chunk = (L.take i).flatMap chunk ++ chunk x := take_next chunk hx
theorem pre_le (L : List ByteArray) (i : Nat) : ((L.take i).flatMap chunk).length ≤ (L.flatMap chunk).length := by
  have : L.flatMap chunk = (L.take i).flatMap chunk ++ (L.drop i).flatMap chunk := by rw [← List.flatMap_append, List.take_append_drop]
  rw [this, List.length_append]
  omega
set_option maxHeartbeats 4000000 in
set_option maxRecDepth 8000 in
theorem ptest_is (t : TestT) (v : Value) (w : World) (lw : Lw w) (h : TestRd w v t) (hok : testOk t = true) (hB : TestB t) (hlen : (textL t).length ≤ 140737488355328) :
    Calls Tryz.prog 16 #[v] w fun e w' => e = .returned (.string ⟨(textL t).toArray⟩) ∧ On w w' := by
  have hOk := fun W (k : On w W) => ok_is t v W (lw.on k) (h.on k)
  obtain ⟨a1, c1, a2, c2, a3, c3, rfl, hn, r1, r2, r3⟩ := h.ex
  have hT := fun W (k : On w W) => testTokens_is t a1 a2 a3 c1 c2 c3 W (lw.on k) (r1.on k) (r2.on k) (r3.on k) hok hB
  rw [hok] at hOk
  have HL : Hid (∀ i, ((testTk t).take i).flatMap chunk = ((testTk t).take i).flatMap chunk) := fun _ => rfl
  have HPL : Hid (∀ i, (((testTk t).take i).flatMap chunk).length ≤ 140737488355328) := fun i => Nat.le_trans (pre_le _ i) hlen
  have hll : (testTk t).length ≤ 9223372036854775807 := by
    have h1 : ∀ L : List ByteArray, L.length ≤ (L.flatMap chunk).length := fun L => by
      induction L with
      | nil => simp
      | cons x L ih =>
        rw [List.flatMap_cons, List.length_append, List.length_cons]
        have : 1 ≤ (chunk x).length := by unfold chunk; simp
        omega
    have h2 := h1 (testTk t)
    unfold textL at hlen
    omega
  obtain ⟨RES, hRES⟩ : ∃ RES, RES = textL t := ⟨_, rfl⟩
  rw [← hRES]
  have HRES : Hid (RES = (testTk t).flatMap chunk) := hRES
  clear hRES h r1 r2 r3 hok hB lw hlen hn HL
  generalize testTk t = L at *
  generalize t.cond.any.length = m3 at *
  generalize t.cond.k = kk at *
  generalize t.thr.length = m2 at *
  generalize t.ini.length = m1 at *
  generalize t.name = nm at *
  have B0 := Bk.new w #[.string nm, .slice a1 m1 c1, .slice a2 m2 c2, .int .i64 kk, .slice a3 m3 c3] 28
  have k0 := (On.refl w).alloc (.cells #[.string nm, .slice a1 m1 c1, .slice a2 m2 c2, .int .i64 kk, .slice a3 m3 c3] 28)
  go_enter Tryz.func16, Tryz.ntmps16
  go_wp2_with fail
  refine (hOk _ k0).mono ?_
  rintro _ w1 ⟨rfl, k1⟩
  have K1 := k0.trans k1
  have B1 := B0.on k1
  have hs1 := B1.lt
  obtain ⟨W2, hW2⟩ : ∃ W2, W2 = w1.alloc (.cells #[.pointer none, .slice none 0 0] 89) := ⟨_, rfl⟩
  have hb2 : W2.heap[w1.heap.size]? = some (.cells #[.pointer none, .slice none 0 0] 89 (0, 0)) := by rw [hW2]; exact heap_alloc_new w1 _
  have B2 : Bk W2 w.heap.size #[.string nm, .slice a1 m1 c1, .slice a2 m2 c2, .int .i64 kk, .slice a3 m3 c3] := by rw [hW2]; exact B1.alloc _
  have K2 : On w W2 := by rw [hW2]; exact K1.alloc _
  have hz2 : W2.heap.size = w1.heap.size + 1 := by rw [hW2, World.size_alloc]
  have HW2 : Hid (W2 = w1.alloc (.cells #[.pointer none, .slice none 0 0] 89)) := hW2
  have x0 := B1.at (i := 0) rfl
  have x1 := B1.at (i := 1) rfl
  have x2 := B1.at (i := 2) rfl
  have x3 := B1.at (i := 3) rfl
  have x4 := B1.at (i := 4) rfl
  clear hW2 B0 k0 k1 hOk
  go_wp2_with fail
  rw [← HW2.out]
  clear HW2 x0 x1 x2 x3 x4 B1 B2
  refine (hT _ K2).mono ?_
  rintro _ w3 ⟨v3, rfl, r3, k3⟩
  obtain ⟨la, lc, rfl⟩ := own_slice r3
  have hb3 : w3.heap[w1.heap.size]? = some (.cells #[.pointer none, .slice none 0 0] 89 (0, 0)) := (k3.block _ (by omega)).trans hb2
  have HB3 : Hid (Bld w1.heap.size ([] : List UInt8) w3) := bld_new hb3
  have HR3 : Hid (Sr w3 W2.heap.size (.slice la L.length lc) L) := r3
  have HO3 : Hid (On w w3) := K2.trans k3
  have hz3 : w1.heap.size ≤ w3.heap.size := by have := k3.size; omega
  have hsw := K1.size
  clear hb2 hb3 r3 k3 hT K2 K1
  go_wp2
  go_loopg [12] L.length (fun gg s12 wr => ∃ i : Nat, i ≤ L.length ∧ gg = L.length - i ∧ s12 = .int .i64 i ∧ Hid (On w wr) ∧ Hid (Bld w1.heap.size ((L.take i).flatMap chunk) wr) ∧ Hid (Sr wr W2.heap.size (.slice la L.length lc) L) ∧ w1.heap.size ≤ wr.heap.size)
  case atStart => exact ⟨0, Nat.zero_le _, rfl, rfl, HO3, HB3, HR3, hz3⟩
  case round =>
    clear HO3 HB3 HR3 hz3
    obtain ⟨i, hi, hk, rfl, HO, HBL, HR, hz⟩ := hrel
    rcases Nat.lt_or_ge i L.length with hlt | hge
    · obtain ⟨x, hx⟩ : ∃ x, L[i]? = some x := ⟨_, List.getElem?_eq_getElem hlt⟩
      obtain ⟨g, cap, hv, _, _, hg, hc⟩ := own_cells HR.out (by omega)
      simp only [Value.slice.injEq] at hv
      obtain ⟨rfl, _, rfl⟩ := hv
      have hcx := hc i (.string x) (by rw [List.getElem?_map, hx]; rfl)
      have hpl := HPL.out (i + 1)
      rw [text_pre L i x hx, List.length_append] at hpl
      have hch : (chunk x).length = x.data.toList.length + 1 := by unfold chunk; rw [List.length_append]; rfl
      rw [hch] at hpl
      have hws := ws_is w1.heap.size _ x wr HBL.out (by omega) hz
      have HTP : Hid ((L.take (i + 1)).flatMap chunk = ((L.take i).flatMap chunk ++ x.data.toList) ++ [gapB x]) := by
        show _ = _
        rw [text_pre L i x hx]
        unfold chunk
        rw [List.append_assoc]
      have hgp := fun W => gap_is x W
      clear hc hx HBL
      go_wp2_with fail
      refine hws.mono ?_
      rintro _ w4 ⟨v4, rfl, hb4, kb4, ko4⟩
      have HO4 : On w w4 := HO.out.below kb4 hsw
      have HR4 : Sr w4 W2.heap.size _ L := HR.out.oth ko4 (by omega)
      have hz4 : w1.heap.size ≤ w4.heap.size := Nat.le_trans hz kb4.size
      have hwb := wb_is w1.heap.size _ (gapB x) w4 hb4 (by rw [List.length_append]; omega) hz4
      clear hws hcx kb4 ko4 HR HO hb4
      go_wp2_with fail
      refine (hgp _).mono ?_
      rintro _ w5 ⟨rfl, hw5⟩
      subst w5
      go_wp2_with fail
      refine hwb.mono ?_
      rintro _ w6 ⟨v6, rfl, hb6, kb6, ko6⟩
      have HO6 : Hid (On w w6) := HO4.below kb6 hsw
      have HR6 : Hid (Sr w6 W2.heap.size _ L) := HR4.oth ko6 (by omega)
      have hz6 : w1.heap.size ≤ w6.heap.size := Nat.le_trans hz4 kb6.size
      have HB6 : Hid (Bld w1.heap.size ((L.take (i + 1)).flatMap chunk) w6) := by rw [HTP.out]; exact hb6
      clear hwb hb6 kb6 ko6 HR4 HO4 HTP
      go_wp2
      go_roundg (L.length - (i + 1))
      case measure => omega
      case rel => exact ⟨i + 1, hlt, rfl, by congr 1, HO6, HB6, HR6, hz6⟩
    · obtain rfl : L.length = i := by omega
      have hb := HBL.out
      rw [List.take_of_length_le (Nat.le_refl _), ← HRES.out] at hb
      have hst := bstr_is w1.heap.size RES wr hb hz
      clear hb HBL HR
      go_wp2_with fail
      refine hst.mono ?_
      rintro _ w4 ⟨rfl, kb4⟩
      have HO4 : On w w4 := HO.out.below kb4 hsw
      go_wp2
      go_ret
      exact ⟨rfl, HO4⟩
end Go.Proofs.YtacflahkofmcpaaGreatDoor.Wl
