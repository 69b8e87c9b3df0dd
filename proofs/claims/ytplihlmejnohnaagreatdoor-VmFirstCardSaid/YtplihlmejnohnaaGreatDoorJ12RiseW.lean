/- print.isWord for every text. -/
import Derived.Test.YtplihlmejnohnaaGreatDoorJ02OwnR
import Derived.Test.YtplihlmejnohnaaGreatDoorJ07OkLeaf
import Derived.Deep.LoopGhost
import Derived.Laws.IdiomStrings
import Derived.Test.YtplihlmejnohnaaGreatDoorAllB
import Derived.Test.YtplihlmejnohnaaGreatDoorJ11AllC
import Derived.Test.YtplihlmejnohnaaGreatDoorJ08OkIns
import Derived.Test.YtplihlmejnohnaaGreatDoorJ00Heap
import Derived.Lib.TrailingZeros
namespace Go.Proofs.YtplihlmejnohnaaGreatDoor
open Go.RowKit

theorem chs_at : ∀ (l : List UInt8) (i n : Nat) (c : UInt8), l[n]? = some c → chsOk i l = true → chOk (i + n) c = true
  | [], i, n, c, h, _ => by simp at h
  | x :: l, i, 0, c, h, hk => by
    simp only [List.getElem?_cons_zero, Option.some.injEq] at h
    subst h
    unfold chsOk at hk
    simp only [Bool.and_eq_true] at hk
    exact hk.1
  | x :: l, i, n + 1, c, h, hk => by
    rw [List.getElem?_cons_succ] at h
    unfold chsOk at hk
    simp only [Bool.and_eq_true] at hk
    have := chs_at l (i + 1) n c h hk.2
    rwa [show i + 1 + n = i + (n + 1) by omega] at this
theorem chs_all : ∀ (l : List UInt8) (i : Nat), (∀ n c, l[n]? = some c → chOk (i + n) c = true) → chsOk i l = true
  | [], _, _ => rfl
  | x :: l, i, h => by
    unfold chsOk
    rw [show chOk i x = true from h 0 x rfl, chs_all l (i + 1) (fun n c hn => by
      have := h (n + 1) c (by rw [List.getElem?_cons_succ]; exact hn)
      rwa [show i + (n + 1) = i + 1 + n by omega] at this)]
    rfl
theorem word_no {s : ByteArray} {n : Nat} {c : UInt8} (h : s.data.toList[n]? = some c) (hc : chOk n c = false) : wordOk s = false := by
  unfold wordOk
  cases hk : chsOk 0 s.data.toList with
  | true => have := chs_at _ 0 n c h hk; rw [Nat.zero_add, hc] at this; cases this
  | false => rfl
theorem toList_nil {s : ByteArray} (h : s.size = 0) : s.toList = [] := by
  rw [ByteArray.toList_eq]
  exact List.eq_nil_of_length_eq_zero (by rw [Array.length_toList]; exact h)
theorem toList_ne {s : ByteArray} (h : 0 < s.size) : ¬ s.toList = [] := by
  rw [ByteArray.toList_eq]
  intro h'
  have := congrArg List.length h'
  rw [Array.length_toList] at this
  have h2 : s.data.size = 0 := this
  have h3 : s.size = s.data.size := rfl
  omega
set_option maxHeartbeats 4000000 in
set_option maxRecDepth 8000 in
theorem isWord_is (s : ByteArray) (w : World) (hs : s.size ≤ 9223372036854775807) :
    Calls Tryz.prog 107 #[.string s] w fun e w' => e = .returned (.bool (wordOk s)) ∧ On w w' := by
  obtain ⟨cap, W, hconv, hW, hcell⟩ : ∃ cap W, (convert 9 23 (.string s)).run Tryz.prog w = .ok (.slice (some ⟨w.heap.size, 0, none⟩) s.size cap) W ∧ On w W ∧ (∀ j (hj : j < s.data.size), W.cell? ⟨w.heap.size, j, none⟩ = some (.int .u8 (s.data[j].toNat : Int))) := by
    refine ⟨_, _, run_bytes_of_string w _ _ 5 s Tryz.underlying9 Tryz.underlying23 Tryz.underlying5, (On.refl w).drew.alloc _, fun j hj => ?_⟩
    have := World.cell?_alloc_mark w.drew (bytesRow s (grownCap w s.size 0 5)) 5 ((bytesRow s (grownCap w s.size 0 5)).size, (bytesRow s (grownCap w s.size 0 5)).size + 1) j
    exact this.trans (bytesRow_at s _ j hj)
  have hwW : w.heap.size < W.heap.size ∨ s.data.size = 0 := by
    rcases Nat.eq_zero_or_pos s.data.size with h | h
    · exact Or.inr h
    · left
      have := hcell 0 h
      rcases Nat.lt_or_ge w.heap.size W.heap.size with h' | h'
      · exact h'
      · simp [World.cell?, Array.getElem?_eq_none h'] at this
  have HC : Hid _ := hcell
  have HW : Hid (On w W) := hW
  clear hcell hW
  go_enter Tryz.func107, Tryz.ntmps107
  go_wp2
  clear hconv
  go_loopg [3, 4, 5, 9] s.size (fun gg _ _ _ s9 wr => ∃ n : Nat, n ≤ s.size ∧ gg = s.size - n ∧ s9 = .int .i64 n ∧ wr = W ∧ Hid (∀ j c, j < n → s.data.toList[j]? = some c → chOk j c = true))
  case atStart => exact ⟨0, Nat.zero_le _, rfl, rfl, rfl, fun j c hj => absurd hj (Nat.not_lt_zero _)⟩
  case round =>
    obtain ⟨n, hn, hk, rfl, rfl, hall⟩ := hrel
    rcases Nat.lt_or_ge n s.size with hlt | hge
    · have hsz : s.size = s.data.size := rfl
      obtain ⟨c, hc⟩ : ∃ c, c = s.data[n]'(by omega) := ⟨_, rfl⟩
      have hx : Hid (s.data.toList[n]? = some c) := by
        show s.data.toList[n]? = some c
        rw [hc, List.getElem?_eq_getElem (by simpa using hlt)]; simp
      have u0 : wr.cell? ⟨w.heap.size, n, none⟩ = some (.int .u8 (c.toNat : Int)) := by rw [hc]; exact HC.out n (by omega)
      have hlw : w.heap.size < wr.heap.size := by omega
      have hcb : (c.toNat : Int) < 256 := by have := c.toNat_lt; omega
      have hlo := fun W => isLocation_is (c.toNat : Int) W
      clear hc hsz
      have step : ∀ (h : chOk n c = true), Hid (∀ j c', j < n + 1 → s.data.toList[j]? = some c' → chOk j c' = true) := fun h j c' hj hj' => by
        rcases Nat.lt_or_ge j n with h' | h'
        · exact hall.out j c' h' hj'
        · obtain rfl : j = n := by omega
          rw [hx.out] at hj'
          cases hj'
          exact h
      have hch : Hid (chOk n c = (locOk c.toNat || (decide (0 < n) && (decide (48 ≤ c.toNat) && decide (c.toNat ≤ 57))))) := rfl
      cases hl : locOk (c.toNat : Int) with
      | true =>
        rw [hl] at hlo
        have hok : Hid (chOk n c = true) := by rw [Hid, hch.out, hl]; rfl
        by_cases h48 : (48 : Int) ≤ c.toNat
        all_goals
          go_wp2_with (go_at_call 126; refine (hlo _).mono ?_; rintro e w1 ⟨rfl, rfl⟩)
          go_roundg (s.size - (n + 1))
          case measure => omega
          case rel => exact ⟨n + 1, by omega, rfl, by go_num, rfl, step hok.out⟩
      | false =>
        rw [hl] at hlo
        rcases Nat.eq_zero_or_pos n with h0 | h0
        · subst h0
          have hno : Hid (wordOk s = false) := word_no hx.out (by rw [hch.out, hl]; rfl)
          by_cases h48 : (48 : Int) ≤ c.toNat
          all_goals
            go_wp2_with (go_at_call 126; refine (hlo _).mono ?_; rintro e w1 ⟨rfl, rfl⟩)
            go_ret
            exact ⟨by rw [hno.out]; rfl, HW.out⟩
        · have hn0 : ¬ (n : Int) = 0 := by omega
          by_cases h48 : (48 : Int) ≤ c.toNat
          · by_cases h57 : (c.toNat : Int) ≤ 57
            · have hok : Hid (chOk n c = true) := by
                rw [Hid, hch.out]; simp; right; omega
              go_wp2_with (go_at_call 126; refine (hlo _).mono ?_; rintro e w1 ⟨rfl, rfl⟩)
              go_roundg (s.size - (n + 1))
              case measure => omega
              case rel => exact ⟨n + 1, by omega, rfl, by go_num, rfl, step hok.out⟩
            · have hno : Hid (wordOk s = false) := word_no hx.out (by rw [hch.out, hl]; simp; omega)
              go_wp2_with (go_at_call 126; refine (hlo _).mono ?_; rintro e w1 ⟨rfl, rfl⟩)
              go_ret
              exact ⟨by rw [hno.out]; rfl, HW.out⟩
          · have hno : Hid (wordOk s = false) := word_no hx.out (by rw [hch.out, hl]; simp; omega)
            go_wp2_with (go_at_call 126; refine (hlo _).mono ?_; rintro e w1 ⟨rfl, rfl⟩)
            go_ret
            exact ⟨by rw [hno.out]; rfl, HW.out⟩
    · have hyes : Hid (wordOk s = decide (0 < s.size)) := by
        show wordOk s = _
        unfold wordOk
        rw [chs_all _ 0 (fun j c hj => by
          rw [Nat.zero_add]
          refine hall.out j c ?_ hj
          have := (List.getElem?_eq_some_iff.1 hj).1
          have hsz : s.size = s.data.size := rfl
          simp at this; omega)]
        rfl
      rcases Nat.eq_zero_or_pos s.size with h0 | h0
      · have he := toList_nil h0
        go_wp2
        go_ret
        exact ⟨by rw [hyes.out]; simp [h0], HW.out⟩
      · have he := toList_ne h0
        go_wp2
        go_ret
        exact ⟨by rw [hyes.out, decide_eq_true h0]; simp [he], HW.out⟩
end Go.Proofs.YtplihlmejnohnaaGreatDoor

namespace Go.Proofs.YtplihlmejnohnaaGreatDoor
open Go.RowKit

set_option maxHeartbeats 1000000 in
set_option maxRecDepth 8000 in
theorem okCond_is (c : CondT) (a : Option Addr) (cc : Nat) (w : World) (h : Rd2 atomC 4 w (.slice a c.any.length cc) c.any) :
    Calls Tryz.prog 112 #[.agg #[.int .i64 c.k, .slice a c.any.length cc]] w fun e w' => e = .returned (.bool (condOk c)) ∧ On w w' := by
  obtain ⟨k, LL⟩ := c
  have hI := fun T => allRow_is LL a cc (w.alloc T) (h.on ((On.refl w).alloc T))
  obtain ⟨_, _, _, _, hm⟩ := h.slice
  unfold condOk
  simp only at hI hm ⊢
  generalize LL.all rowOk = b at hI ⊢
  clear h
  have hl : (LL.length == 0) = decide (LL.length = 0) := rfl
  by_cases h0 : k = 0
  · subst h0
    rcases Nat.eq_zero_or_pos LL.length with hz | hz
    · rw [hz]
      go_enter Tryz.func112, Tryz.ntmps112
      go_wp2
      go_ret
      exact ⟨rfl, (On.refl w).alloc _⟩
    · have hz' : ((LL.length : Int) == 0) = false := by simpa using (by omega : ¬ (LL.length : Int) = 0)
      have hz2 : (LL.length == 0) = false := by rw [hl]; exact decide_eq_false (by omega)
      have e1 : (if (0 : Int) == 0 then LL.length == 0 else if (0 : Int) == 1 || (0 : Int) == 2 then decide (0 < LL.length) && b else false) = false := by rw [hz2]; rfl
      rw [e1]
      clear e1 hz2 hl
      go_enter Tryz.func112, Tryz.ntmps112
      go_wp2
      go_ret
      exact ⟨rfl, (On.refl w).alloc _⟩
  · have b0 : (k == 0) = false := by simpa using h0
    by_cases h12 : k = 1 ∨ k = 2
    · have b1 : (k == 1 || k == 2) = true := by simpa using h12
      have e1 : (if k == 0 then LL.length == 0 else if k == 1 || k == 2 then decide (0 < LL.length) && b else false) = (decide (0 < LL.length) && b) := by rw [b0, b1]; rfl
      rw [e1]
      clear e1 b1 hl
      rcases Nat.eq_zero_or_pos LL.length with hz | hz
      · rw [hz]
        rcases h12 with rfl | rfl
        all_goals
          go_enter Tryz.func112, Tryz.ntmps112
          go_wp2
          go_ret
          exact ⟨rfl, (On.refl w).alloc _⟩
      · rw [decide_eq_true hz]
        rcases h12 with rfl | rfl
        all_goals
          go_enter Tryz.func112, Tryz.ntmps112
          go_wp2_with (go_at_call 133; refine (hI _).mono ?_; rintro e w1 ⟨rfl, k1⟩)
          go_ret
          exact ⟨rfl, ((On.refl w).alloc _).trans k1⟩
    · have h1 : ¬ k = 1 := fun h => h12 (Or.inl h)
      have h2 : ¬ k = 2 := fun h => h12 (Or.inr h)
      have b1 : (k == 1) = false := by simpa using h1
      have b2 : (k == 2) = false := by simpa using h2
      go_enter Tryz.func112, Tryz.ntmps112
      go_wp2
      go_ret
      exact ⟨by simp, (On.refl w).alloc _⟩

set_option maxHeartbeats 2000000 in
set_option maxRecDepth 8000 in
theorem ok_is (t : TestT) (v : Value) (w : World) (lw : Lw w) (h : TestRd w v t) :
    Calls Tryz.prog 93 #[v] w fun e w' => e = .returned (.bool (testOk t)) ∧ On w w' := by
  obtain ⟨a1, c1, a2, c2, a3, c3, rfl, hn, r1, r2, r3⟩ := h.ex
  clear h
  have hW := fun W => isWord_is t.name W hn
  have hI := fun W (k : On w W) => allIni_is t.ini a1 c1 W (r1.on k)
  have hT := fun W (k : On w W) => allThr_is t.thr a2 c2 W (lw.on k) (r2.on k)
  have hC := fun W (k : On w W) => okCond_is t.cond a3 c3 W (r3.on k)
  have k0 : ∀ T, On w (w.alloc T) := fun T => (On.refl w).alloc T
  have bk : ∀ cs T, Bk (w.alloc (.cells cs T)) w.heap.size cs := fun cs T => Bk.new w cs T
  unfold testOk
  clear r1 r2 r3 lw hn
  generalize t.ini.all initOk = b2 at hI ⊢
  generalize t.thr.all threadOk = b3 at hT ⊢
  generalize condOk t.cond = b4 at hC ⊢
  generalize wordOk t.name = b1 at hW ⊢
  generalize t.ini.length = m1 at hI ⊢
  generalize t.thr.length = m2 at hT ⊢
  generalize t.cond.any.length = m3 at hC ⊢
  generalize t.cond.k = kk at hC ⊢
  generalize t.name = nm at hW ⊢
  cases b1 with
  | false =>
    go_enter Tryz.func93, Tryz.ntmps93
    go_wp2_with (go_at_call 107; refine (hW _).mono ?_; rintro e w1 ⟨rfl, k1⟩)
    go_ret
    exact ⟨rfl, (k0 _).trans k1⟩
  | true =>
    go_enter Tryz.func93, Tryz.ntmps93
    go_wp2_with fail
    refine (hW _).mono ?_
    rintro e w1 ⟨rfl, k1⟩
    have B1 := (bk _ _).on k1
    have K1 : Hid (On w w1) := (k0 _).trans k1
    have x1 := B1.at (i := 1) rfl
    have s1 := B1.lt
    clear hW k1 bk k0
    cases b2 with
    | false =>
      go_wp2_with (go_at_call 108; refine (hI _ K1.out).mono ?_; rintro e w2 ⟨rfl, k2⟩)
      go_ret
      exact ⟨rfl, K1.out.trans k2⟩
    | true =>
      go_wp2_with fail
      refine (hI _ K1.out).mono ?_
      rintro e w2 ⟨rfl, k2⟩
      have B2 := B1.on k2
      have K2 : Hid (On w w2) := K1.out.trans k2
      have x2 := B2.at (i := 2) rfl
      have s2 := B2.lt
      clear hI k2 K1 B1 x1 s1
      cases b3 with
      | false =>
        go_wp2_with (go_at_call 110; refine (hT _ K2.out).mono ?_; rintro e w3 ⟨rfl, k3⟩)
        go_ret
        exact ⟨rfl, K2.out.trans k3⟩
      | true =>
        go_wp2_with fail
        refine (hT _ K2.out).mono ?_
        rintro e w3 ⟨rfl, k3⟩
        have B3 := B2.on k3
        have K3 : Hid (On w w3) := K2.out.trans k3
        have x3 := B3.at (i := 3) rfl
        have x4 := B3.at (i := 4) rfl
        have s3 := B3.lt
        clear hT k3 K2 B2 x2 s2
        go_wp2_with (go_at_call 112; refine (hC _ K3.out).mono ?_; rintro e w4 ⟨rfl, k4⟩)
        go_ret
        exact ⟨rfl, K3.out.trans k4⟩
end Go.Proofs.YtplihlmejnohnaaGreatDoor

namespace Go.Proofs.YtplihlmejnohnaaGreatDoor
open Go.RowKit

theorem fold_lt {α : Type} (f : α → Int) : ∀ (L : List α) (n : Nat), n < 67108864 → L.foldl (fun n x => withL n (f x)) n < 67108864
  | [], _, h => h
  | x :: L, _, h => fold_lt f L _ (withL_lt h (f x))
theorem fold2_lt {α : Type} (f : α → Int) : ∀ (LL : List (List α)) (n : Nat), n < 67108864 → LL.foldl (fun n L => L.foldl (fun n x => withL n (f x)) n) n < 67108864
  | [], _, h => h
  | L :: LL, _, h => fold2_lt f LL _ (fold_lt f L _ h)
theorem locsN_lt (t : TestT) : locsN t < 67108864 := by
  unfold locsN
  exact fold2_lt (fun x : AtomT => x.l) _ _ (fold2_lt (fun x : InsT => x.l) _ _ (fold_lt (fun x : InitT => x.l) _ _ (by decide)))

set_option maxHeartbeats 8000000 in
set_option maxRecDepth 8000 in
theorem locations_is (t : TestT) (v : Value) (w : World) (h : TestRd w v t) :
    Calls Tryz.prog 97 #[v] w fun e w' => e = .returned (.int .u32 (locsN t)) ∧ On w w' := by
  obtain ⟨a1, c1, a2, c2, a3, c3, rfl, hnm, r1, r2, r3⟩ := h.ex
  clear h
  obtain ⟨_, _, _, _, hm1⟩ := r1.slice
  obtain ⟨_, _, _, _, hm2⟩ := r2.slice
  obtain ⟨_, _, _, _, hm3⟩ := r3.slice
  have R1 : Hid (Rd iniC 2 w (.slice a1 t.ini.length c1) t.ini) := r1
  have R2 : Hid (Rd2 insC 9 w (.slice a2 t.thr.length c2) t.thr) := r2
  have R3 : Hid (Rd2 atomC 4 w (.slice a3 t.cond.any.length c3) t.cond.any) := r3
  obtain ⟨B, hB⟩ : ∃ B, B = locsN t := ⟨_, rfl⟩
  rw [← hB]
  have HB : Hid (B = locAny (locThr (locIni 0 (t.ini.drop 0)) t.thr) t.cond.any) := hB
  clear hB r1 r2 r3 hnm
  generalize t.name = nm
  generalize t.cond.k = kk
  generalize t.ini = I at *
  generalize t.thr = T at *
  generalize t.cond.any = A at *
  go_enter Tryz.func97, Tryz.ntmps97
  go_wp2
  go_loopg [3, 17] I.length (fun gg s3 s17 wr => ∃ n s : Nat, n ≤ I.length ∧ gg = I.length - n ∧ s17 = .int .i64 n ∧ s3 = .int .u32 s ∧ s < 67108864 ∧ Hid (On w wr) ∧ Bk wr w.heap.size #[.string nm, .slice a1 I.length c1, .slice a2 T.length c2, .int .i64 kk, .slice a3 A.length c3] ∧ Hid (B = locAny (locThr (locIni s (I.drop n)) T) A))
  case atStart => exact ⟨0, 0, Nat.zero_le _, rfl, rfl, rfl, by decide, (On.refl w).alloc _, Bk.new w _ _, HB⟩
  case round =>
    clear HB
    obtain ⟨n, s, hn, hk, rfl, rfl, hs, HO, BK, HB⟩ := hrel
    rcases Nat.lt_or_ge n I.length with hlt | hge
    · obtain ⟨x, hx⟩ : ∃ x, I[n]? = some x := ⟨_, List.getElem?_eq_getElem hlt⟩
      obtain ⟨g, off, rfl, hg, hcell⟩ := (R1.out.on HO.out).at hx
      have u0 : wr.cell? ⟨g, off + n * 2, none⟩ = _ := hcell 0 _ rfl
      have u1 : wr.cell? ⟨g, off + n * 2 + 1, none⟩ = _ := hcell 1 _ rfl
      have hd : Hid (I.drop n = x :: I.drop (n + 1)) := drop_at hx
      have hW := fun W => wwith_is s x.l hs W
      have hwl := withL_lt hs x.l
      have HB2 : Hid (B = locAny (locThr (locIni (withL s x.l) (I.drop (n + 1))) T) A) := by
        show B = _
        rw [HB.out, hd.out]; rfl
      have BH : Hid (Bk wr w.heap.size _) := BK
      clear hx hcell HB hd BK
      generalize withL s x.l = s' at *
      go_wp2_with (go_at_call 116; refine (hW _).mono ?_; rintro e w1 ⟨rfl, rfl⟩)
      go_roundg (I.length - (n + 1))
      case measure => omega
      case rel => exact ⟨n + 1, s', by omega, rfl, by go_num, rfl, hwl, HO.out.trans (by repeat' (first | exact On.refl _ | refine On.setNew ?_ (Nat.le_refl _) _ | refine On.alloc ?_ _)), BH.out.on (by repeat' (first | exact On.refl _ | refine On.setNew ?_ (Nat.le_refl _) _ | refine On.alloc ?_ _)), HB2⟩
    · obtain rfl : n = I.length := by omega
      have HN : Hid (B = locAny (locThr s (T.drop 0)) A) := by
        show B = _
        rw [HB.out, List.drop_of_length_le hge]; rfl
      have xf := BK.at (i := 2) rfl
      have xl := BK.lt
      obtain ⟨W, hWW⟩ : ∃ W, W = wr := ⟨_, rfl⟩
      subst hWW
      clear HB
      go_wp2
      clear xf xl hge
      go_loopg [3, 29] T.length (fun gg sl3 sl9 wq => ∃ n2 s2 : Nat, n2 ≤ T.length ∧ gg = T.length - n2 ∧ sl9 = .int .i64 n2 ∧ sl3 = .int .u32 s2 ∧ s2 < 67108864 ∧ Hid (On w wq) ∧ Bk wq w.heap.size #[.string nm, .slice a1 I.length c1, .slice a2 T.length c2, .int .i64 kk, .slice a3 A.length c3] ∧ Hid (B = locAny (locThr s2 (T.drop n2)) A))
      case atStart => exact ⟨0, s, Nat.zero_le _, rfl, rfl, rfl, hs, HO, BK, HN⟩
      case round =>
        clear HN BK HO
        obtain ⟨n2, s2, hn2, hk2, rfl, rfl, hs2, HO2, BK2, HB2⟩ := hrel
        obtain ⟨V2, hV2⟩ : ∃ V, V = wr := ⟨_, rfl⟩
        subst hV2
        rcases Nat.lt_or_ge n2 T.length with hlt | hge
        · obtain ⟨x, hx⟩ : ∃ x, T[n2]? = some x := ⟨_, List.getElem?_eq_getElem hlt⟩
          obtain ⟨g, off, rfl, hg, ax, cx, v0, hxm, rx⟩ := (R2.out.on HO2.out).row hx
          have hd : Hid (T.drop n2 = x :: T.drop (n2 + 1)) := drop_at hx
          have HI : Hid (B = locAny (locThr (locRow s2 (x.drop 0)) (T.drop (n2 + 1))) A) := by
            show B = _
            rw [HB2.out, hd.out]; rfl
          have RX : Hid (Rd insC 9 V2 (.slice ax x.length cx) x) := rx
          have BH : Hid (Bk V2 w.heap.size _) := BK2
          clear hx HB2 hd BK2 rx
          go_wp2
          clear v0
          go_loopg [3, 35] x.length (fun gg sl3 sl9 wq => ∃ m s' : Nat, m ≤ x.length ∧ gg = x.length - m ∧ sl9 = .int .i64 m ∧ sl3 = .int .u32 s' ∧ s' < 67108864 ∧ Hid (On V2 wq) ∧ Hid (B = locAny (locThr (locRow s' (x.drop m)) (T.drop (n2 + 1))) A))
          case atStart => exact ⟨0, s2, Nat.zero_le _, rfl, rfl, rfl, hs2, On.refl _, HI⟩
          case round =>
            clear HI
            obtain ⟨m, s', hm, hkm, rfl, rfl, hs', HOM, HI⟩ := hrel
            rcases Nat.lt_or_ge m x.length with hlm | hgm
            · obtain ⟨y, hy⟩ : ∃ y, x[m]? = some y := ⟨_, List.getElem?_eq_getElem hlm⟩
              obtain ⟨g2, off2, rfl, hg2, hcell⟩ := (RX.out.on HOM.out).at hy
              have c0 : wr.cell? ⟨g2, off2 + m * 9, none⟩ = _ := hcell 0 _ rfl
              have c1 : wr.cell? ⟨g2, off2 + m * 9 + 1, none⟩ = _ := hcell 1 _ rfl
              have c2 : wr.cell? ⟨g2, off2 + m * 9 + 2, none⟩ = _ := hcell 2 _ rfl
              have c3 : wr.cell? ⟨g2, off2 + m * 9 + 3, none⟩ = _ := hcell 3 _ rfl
              have c4 : wr.cell? ⟨g2, off2 + m * 9 + 4, none⟩ = _ := hcell 4 _ rfl
              have c5 : wr.cell? ⟨g2, off2 + m * 9 + 5, none⟩ = _ := hcell 5 _ rfl
              have c6 : wr.cell? ⟨g2, off2 + m * 9 + 6, none⟩ = _ := hcell 6 _ rfl
              have c7 : wr.cell? ⟨g2, off2 + m * 9 + 7, none⟩ = _ := hcell 7 _ rfl
              have c8 : wr.cell? ⟨g2, off2 + m * 9 + 8, none⟩ = _ := hcell 8 _ rfl
              have hd : Hid (x.drop m = y :: x.drop (m + 1)) := drop_at hy
              have hWt := fun W => wwith_is s' y.l hs' W
              have hwl := withL_lt hs' y.l
              have HJ : Hid (B = locAny (locThr (locRow (withL s' y.l) (x.drop (m + 1))) (T.drop (n2 + 1))) A) := by
                show B = _
                rw [HI.out, hd.out]; rfl
              clear hy hcell HI hd
              generalize withL s' y.l = s'' at *
              go_wp2_with (go_at_call 116; refine (hWt _).mono ?_; rintro e w1 ⟨rfl, rfl⟩)
              go_roundg (x.length - (m + 1))
              case measure => omega
              case rel => exact ⟨m + 1, s'', by omega, rfl, by go_num, rfl, hwl, HOM.out.trans (by repeat' (first | exact On.refl _ | refine On.setNew ?_ (Nat.le_refl _) _ | refine On.alloc ?_ _)), HJ⟩
            · have HJ : Hid (B = locAny (locThr s' (T.drop (n2 + 1))) A) := by
                show B = _
                rw [HI.out, List.drop_of_length_le hgm]; rfl
              clear HI
              go_wp2
              go_roundg (T.length - (n2 + 1))
              case measure => omega
              case rel => exact ⟨n2 + 1, s', by omega, rfl, by go_num, rfl, hs', HO2.out.trans HOM.out, BH.out.on HOM.out, HJ⟩
        · obtain rfl : n2 = T.length := by omega
          have HN2 : Hid (B = locAny s2 (A.drop 0)) := by
            show B = _
            rw [HB2.out, List.drop_of_length_le hge]; rfl
          have xf := BK2.at (i := 4) rfl
          have xl := BK2.lt
          clear HB2
          go_wp2
          clear xf xl hge
          go_loopg [3, 49] A.length (fun gg sl3 sl9 wq => ∃ n3 s3 : Nat, n3 ≤ A.length ∧ gg = A.length - n3 ∧ sl9 = .int .i64 n3 ∧ sl3 = .int .u32 s3 ∧ s3 < 67108864 ∧ Hid (On w wq) ∧ Bk wq w.heap.size #[.string nm, .slice a1 I.length c1, .slice a2 T.length c2, .int .i64 kk, .slice a3 A.length c3] ∧ Hid (B = locAny s3 (A.drop n3)))
          case atStart => exact ⟨0, s2, Nat.zero_le _, rfl, rfl, rfl, hs2, HO2, BK2, HN2⟩
          case round =>
            clear HN2 BK2 HO2
            obtain ⟨n3, s3, hn3, hk3, rfl, rfl, hs3, HO3, BK3, HB3⟩ := hrel
            obtain ⟨V3, hV3⟩ : ∃ V, V = wr := ⟨_, rfl⟩
            subst hV3
            rcases Nat.lt_or_ge n3 A.length with hlt | hge
            · obtain ⟨x, hx⟩ : ∃ x, A[n3]? = some x := ⟨_, List.getElem?_eq_getElem hlt⟩
              obtain ⟨g, off, rfl, hg, ax, cx, v0, hxm, rx⟩ := (R3.out.on HO3.out).row hx
              have hd : Hid (A.drop n3 = x :: A.drop (n3 + 1)) := drop_at hx
              have HI : Hid (B = locAny (locAts s3 (x.drop 0)) (A.drop (n3 + 1))) := by
                show B = _
                rw [HB3.out, hd.out]; rfl
              have RX : Hid (Rd atomC 4 V3 (.slice ax x.length cx) x) := rx
              have BH : Hid (Bk V3 w.heap.size _) := BK3
              clear hx HB3 hd BK3 rx
              go_wp2
              clear v0
              go_loopg [3, 55] x.length (fun gg sl3 sl9 wq => ∃ m s' : Nat, m ≤ x.length ∧ gg = x.length - m ∧ sl9 = .int .i64 m ∧ sl3 = .int .u32 s' ∧ s' < 67108864 ∧ Hid (On V3 wq) ∧ Hid (B = locAny (locAts s' (x.drop m)) (A.drop (n3 + 1))))
              case atStart => exact ⟨0, s3, Nat.zero_le _, rfl, rfl, rfl, hs3, On.refl _, HI⟩
              case round =>
                clear HI
                obtain ⟨m, s', hm, hkm, rfl, rfl, hs', HOM, HI⟩ := hrel
                rcases Nat.lt_or_ge m x.length with hlm | hgm
                · obtain ⟨y, hy⟩ : ∃ y, x[m]? = some y := ⟨_, List.getElem?_eq_getElem hlm⟩
                  obtain ⟨g2, off2, rfl, hg2, hcell⟩ := (RX.out.on HOM.out).at hy
                  have c0 : wr.cell? ⟨g2, off2 + m * 4, none⟩ = _ := hcell 0 _ rfl
                  have c1 : wr.cell? ⟨g2, off2 + m * 4 + 1, none⟩ = _ := hcell 1 _ rfl
                  have c2 : wr.cell? ⟨g2, off2 + m * 4 + 2, none⟩ = _ := hcell 2 _ rfl
                  have c3 : wr.cell? ⟨g2, off2 + m * 4 + 3, none⟩ = _ := hcell 3 _ rfl
                  have hd : Hid (x.drop m = y :: x.drop (m + 1)) := drop_at hy
                  have hWt := fun W => wwith_is s' y.l hs' W
                  have hwl := withL_lt hs' y.l
                  have HJ : Hid (B = locAny (locAts (withL s' y.l) (x.drop (m + 1))) (A.drop (n3 + 1))) := by
                    show B = _
                    rw [HI.out, hd.out]; rfl
                  clear hy hcell HI hd
                  generalize withL s' y.l = s'' at *
                  go_wp2_with (go_at_call 116; refine (hWt _).mono ?_; rintro e w1 ⟨rfl, rfl⟩)
                  go_roundg (x.length - (m + 1))
                  case measure => omega
                  case rel => exact ⟨m + 1, s'', by omega, rfl, by go_num, rfl, hwl, HOM.out.trans (by repeat' (first | exact On.refl _ | refine On.setNew ?_ (Nat.le_refl _) _ | refine On.alloc ?_ _)), HJ⟩
                · have HJ : Hid (B = locAny s' (A.drop (n3 + 1))) := by
                    show B = _
                    rw [HI.out, List.drop_of_length_le hgm]; rfl
                  clear HI
                  go_wp2
                  go_roundg (A.length - (n3 + 1))
                  case measure => omega
                  case rel => exact ⟨n3 + 1, s', by omega, rfl, by go_num, rfl, hs', HO3.out.trans HOM.out, BH.out.on HOM.out, HJ⟩
            · obtain rfl : n3 = A.length := by omega
              have HN3 : Hid (B = s3) := by
                show B = _
                rw [HB3.out, List.drop_of_length_le hge]; rfl
              obtain rfl : B = s3 := HN3.out
              clear HB3 HN3
              go_wp2
              go_ret
              exact ⟨rfl, HO3.out⟩
end Go.Proofs.YtplihlmejnohnaaGreatDoor

namespace Go.Proofs.YtplihlmejnohnaaGreatDoor
open Go.RowKit

set_option maxHeartbeats 4000000 in
set_option maxRecDepth 8000 in
theorem isBig_is (t : TestT) (v : Value) (w : World) (h : TestRd w v t) :
    Calls Tryz.prog 94 #[v] w fun e w' => e = .returned (.bool (bigT t)) ∧ On w w' := by
  have hL := fun W (k : On w W) => locations_is t v W (h.on k)
  have hlt := locsN_lt t
  have hC := fun W => count_is (locsN t) hlt W
  obtain ⟨a1, c1, a2, c2, a3, c3, rfl, hnm, r1, r2, r3⟩ := h.ex
  have hT := fun W (k : On w W) => threadsBig_is t.thr a2 c2 W (r2.on k)
  have hB := fun W (k : On w W) => condBig_is t.cond.k t.cond.any a3 c3 W (r3.on k)
  have k0 : ∀ T, On w (w.alloc T) := fun T => (On.refl w).alloc T
  have bk : ∀ cs T, Bk (w.alloc (.cells cs T)) w.heap.size cs := fun cs T => Bk.new w cs T
  unfold bigT
  clear h r1 r2 r3 hlt
  have hcnt : cntN (locsN t) ≤ 26 := by
    unfold cntN
    have := List.length_filter_le (fun i => (locsN t).testBit i) (List.range 26)
    simpa using this
  generalize locsN t = N at *
  generalize cntN N = M at *
  generalize thrBig t.thr = b2 at hT ⊢
  generalize condBig t.cond.any = b4 at hB ⊢
  generalize t.ini.length = m1 at *
  generalize t.thr.length = m2 at *
  generalize t.cond.any.length = m3 at *
  generalize t.cond.k = kk at *
  generalize t.name = nm at *
  by_cases h1 : 20 < nm.size
  · rw [decide_eq_true h1]
    go_enter Tryz.func94, Tryz.ntmps94
    go_wp2
    go_ret
    exact ⟨rfl, k0 _⟩
  · rw [decide_eq_false h1, Bool.false_or]
    cases b2 with
    | true =>
      go_enter Tryz.func94, Tryz.ntmps94
      go_wp2_with (go_at_call 113; refine (hT _ (k0 _)).mono ?_; rintro e w1 ⟨rfl, rfl⟩)
      go_ret
      exact ⟨rfl, k0 _⟩
    | false =>
      rw [Bool.false_or]
      obtain ⟨B, hQ⟩ : ∃ B, B = (decide (4 < M) || b4) := ⟨_, rfl⟩
      rw [← hQ]
      have HQ : Hid (B = (decide (4 < M) || b4)) := hQ
      clear hQ
      go_enter Tryz.func94, Tryz.ntmps94
      go_wp2_with fail
      refine (hT _ (k0 _)).mono ?_
      rintro e w1 ⟨rfl, rfl⟩
      clear hT
      go_wp2_with fail
      refine (hL _ (k0 _)).mono ?_
      rintro e w2 ⟨rfl, k2⟩
      have B2 := (bk _ _).on k2
      have K2 : Hid (On w w2) := (k0 _).trans k2
      clear hL k2 bk k0
      go_wp2_with fail
      refine (hC _).mono ?_
      rintro e w3 ⟨rfl, k3⟩
      have B3 := B2.on k3
      have K3 : Hid (On w w3) := K2.out.trans k3
      have x3 := B3.at (i := 3) rfl
      have x4 := B3.at (i := 4) rfl
      have s3 := B3.lt
      clear hC k3 B2 K2
      by_cases h4 : 4 < M
      · obtain rfl : B = true := by rw [HQ.out, decide_eq_true h4, Bool.true_or]
        go_wp2
        go_ret
        exact ⟨rfl, K3.out⟩
      · obtain rfl : B = b4 := by rw [HQ.out, decide_eq_false h4, Bool.false_or]
        go_wp2_with (go_at_call 115; refine (hB _ K3.out).mono ?_; rintro e w4 ⟨rfl, k4⟩)
        go_ret
        exact ⟨ret_bool (by rw [decide_eq_false (by omega : ¬ (20 : Int) < nm.size), decide_eq_false (by omega : ¬ (4 : Int) < M)]; rfl), K3.out.trans k4⟩

set_option maxHeartbeats 8000000 in
set_option maxRecDepth 8000 in
theorem nowhere_is (t : TestT) (v : Value) (w : World) (h : TestRd w v t) :
    Calls Tryz.prog 96 #[v] w fun e w' => e = .returned (.bool (nowhere t)) ∧ On w w' := by
  obtain ⟨a1, c1, a2, c2, a3, c3, rfl, hnm, r1, r2, r3⟩ := h.ex
  clear h
  obtain ⟨_, _, _, _, hm2⟩ := r2.slice
  obtain ⟨_, _, _, _, hm3⟩ := r3.slice
  have R2 : Hid (Rd2 insC 9 w (.slice a2 t.thr.length c2) t.thr) := r2
  have R3 : Hid (Rd2 atomC 4 w (.slice a3 t.cond.any.length c3) t.cond.any) := r3
  obtain ⟨B, hB⟩ : ∃ B, B = nowhere t := ⟨_, rfl⟩
  rw [← hB]
  have HB : Hid (B = ((t.thr.drop 0).any skipBad || t.cond.any.any (fun L => L.any (farAtom t.thr.length)))) := hB
  clear hB r1 r2 r3 hnm
  generalize t.name = nm
  generalize t.cond.k = kk
  generalize t.ini.length = I at *
  generalize t.thr = T at *
  generalize t.cond.any = A at *
  go_enter Tryz.func96, Tryz.ntmps96
  go_wp2
  go_loopg [12] T.length (fun gg sl9 wq => ∃ n : Nat, n ≤ T.length ∧ gg = T.length - n ∧ sl9 = .int .i64 n ∧ Hid (On w wq) ∧ Bk wq w.heap.size #[.string nm, .slice a1 I c1, .slice a2 T.length c2, .int .i64 kk, .slice a3 A.length c3] ∧ Hid (B = ((T.drop n).any skipBad || A.any (fun L => L.any (farAtom T.length)))))
  case atStart => exact ⟨0, Nat.zero_le _, rfl, rfl, (On.refl w).alloc _, Bk.new w _ _, HB⟩
  case round =>
    clear HB
    obtain ⟨n, hn, hk, rfl, HO, BK, HB⟩ := hrel
    rcases Nat.lt_or_ge n T.length with hlt | hge
    · obtain ⟨x, hx⟩ : ∃ x, T[n]? = some x := ⟨_, List.getElem?_eq_getElem hlt⟩
      obtain ⟨g, off, rfl, hg, ax, cx, v0, hxm, rx⟩ := (R2.out.on HO.out).row hx
      have hd : Hid (T.drop n = x :: T.drop (n + 1)) := drop_at hx
      have hS := skips_is x ax cx wr rx
      have BH : Hid (Bk wr w.heap.size _) := BK
      clear hx rx BK
      cases hq : skipBad x with
      | true =>
        have hb : B = true := by rw [HB.out, hd.out, List.any_cons, hq]; rfl
        subst hb
        rw [hq] at hS
        go_wp2_with (go_at_call 117; refine hS.mono ?_; rintro e w1 ⟨rfl, k1⟩)
        go_ret
        exact ⟨rfl, HO.out.trans k1⟩
      | false =>
        have HJ : Hid (B = ((T.drop (n + 1)).any skipBad || A.any (fun L => L.any (farAtom T.length)))) := by
          show B = _
          rw [HB.out, hd.out, List.any_cons, hq]; rfl
        rw [hq] at hS
        clear HB hd
        go_wp2_with (go_at_call 117; refine hS.mono ?_; rintro e w1 ⟨rfl, k1⟩)
        go_roundg (T.length - (n + 1))
        case measure => omega
        case rel => exact ⟨n + 1, by omega, rfl, by go_num, HO.out.trans k1, BH.out.on k1, HJ⟩
    · obtain rfl : n = T.length := by omega
      have HN : Hid (B = (A.drop 0).any (fun L => L.any (farAtom T.length))) := by
        show B = _
        rw [HB.out, List.drop_of_length_le hge]; rfl
      have xf := BK.at (i := 4) rfl
      have xl := BK.lt
      clear HB
      go_wp2
      clear xf xl hge
      go_loopg [23] A.length (fun gg sl9 wq => ∃ n3 : Nat, n3 ≤ A.length ∧ gg = A.length - n3 ∧ sl9 = .int .i64 n3 ∧ Hid (On w wq) ∧ Bk wq w.heap.size #[.string nm, .slice a1 I c1, .slice a2 T.length c2, .int .i64 kk, .slice a3 A.length c3] ∧ Hid (B = (A.drop n3).any (fun L => L.any (farAtom T.length))))
      case atStart => exact ⟨0, Nat.zero_le _, rfl, rfl, HO, BK, HN⟩
      case round =>
        clear HN BK HO
        obtain ⟨n3, hn3, hk3, rfl, HO, BK, HB⟩ := hrel
        obtain ⟨V, hV⟩ : ∃ V, V = wr := ⟨_, rfl⟩
        subst hV
        rcases Nat.lt_or_ge n3 A.length with hlt | hge
        · obtain ⟨x, hx⟩ : ∃ x, A[n3]? = some x := ⟨_, List.getElem?_eq_getElem hlt⟩
          obtain ⟨g, off, rfl, hg, ax, cx, v0, hxm, rx⟩ := (R3.out.on HO.out).row hx
          have hd : Hid (A.drop n3 = x :: A.drop (n3 + 1)) := drop_at hx
          have HI : Hid (B = ((x.drop 0).any (farAtom T.length) || (A.drop (n3 + 1)).any (fun L => L.any (farAtom T.length)))) := by
            show B = _
            rw [HB.out, hd.out]; rfl
          have RX : Hid (Rd atomC 4 V (.slice ax x.length cx) x) := rx
          have BH : Hid (Bk V w.heap.size _) := BK
          clear hx HB hd BK rx
          go_wp2
          clear v0
          go_loopg [29] x.length (fun gg sl9 wq => ∃ m : Nat, m ≤ x.length ∧ gg = x.length - m ∧ sl9 = .int .i64 m ∧ Hid (On V wq) ∧ Hid (B = ((x.drop m).any (farAtom T.length) || (A.drop (n3 + 1)).any (fun L => L.any (farAtom T.length)))))
          case atStart => exact ⟨0, Nat.zero_le _, rfl, rfl, On.refl _, HI⟩
          case round =>
            clear HI
            obtain ⟨m, hm, hkm, rfl, HOM, HI⟩ := hrel
            have BW := BH.out.on HOM.out
            have x2 := BW.at (i := 2) rfl
            have xl2 := BW.lt
            clear BW
            rcases Nat.lt_or_ge m x.length with hlm | hgm
            · obtain ⟨y, hy⟩ : ∃ y, x[m]? = some y := ⟨_, List.getElem?_eq_getElem hlm⟩
              obtain ⟨g2, off2, rfl, hg2, hcell⟩ := (RX.out.on HOM.out).at hy
              have c0 : wr.cell? ⟨g2, off2 + m * 4, none⟩ = _ := hcell 0 _ rfl
              have c1 : wr.cell? ⟨g2, off2 + m * 4 + 1, none⟩ = _ := hcell 1 _ rfl
              have c2 : wr.cell? ⟨g2, off2 + m * 4 + 2, none⟩ = _ := hcell 2 _ rfl
              have c3 : wr.cell? ⟨g2, off2 + m * 4 + 3, none⟩ = _ := hcell 3 _ rfl
              have hd : Hid (x.drop m = y :: x.drop (m + 1)) := drop_at hy
              clear hy hcell
              by_cases hf : (T.length : Int) ≤ y.t
              · have hb : B = true := by rw [HI.out, hd.out, List.any_cons, farAtom, decide_eq_true hf]; rfl
                subst hb
                go_wp2
                go_ret
                exact ⟨rfl, HO.out.trans (HOM.out.trans (by repeat' (first | exact On.refl _ | refine On.setNew ?_ (Nat.le_refl _) _ | refine On.alloc ?_ _)))⟩
              · have HJ : Hid (B = ((x.drop (m + 1)).any (farAtom T.length) || (A.drop (n3 + 1)).any (fun L => L.any (farAtom T.length)))) := by
                  show B = _
                  rw [HI.out, hd.out, List.any_cons, farAtom, decide_eq_false hf]; rfl
                clear HI hd
                go_wp2
                go_roundg (x.length - (m + 1))
                case measure => omega
                case rel => exact ⟨m + 1, by omega, rfl, by go_num, HOM.out.trans (by repeat' (first | exact On.refl _ | refine On.setNew ?_ (Nat.le_refl _) _ | refine On.alloc ?_ _)), HJ⟩
            · have HJ : Hid (B = (A.drop (n3 + 1)).any (fun L => L.any (farAtom T.length))) := by
                show B = _
                rw [HI.out, List.drop_of_length_le hgm]; rfl
              clear HI
              go_wp2
              go_roundg (A.length - (n3 + 1))
              case measure => omega
              case rel => exact ⟨n3 + 1, by omega, rfl, by go_num, HO.out.trans HOM.out, BH.out.on HOM.out, HJ⟩
        · obtain rfl : n3 = A.length := by omega
          obtain rfl : B = false := by rw [HB.out, List.drop_of_length_le hge]; rfl
          clear HB
          go_wp2
          go_ret
          exact ⟨rfl, HO.out⟩

set_option maxHeartbeats 4000000 in
set_option maxRecDepth 8000 in
theorem check_is (t : TestT) (v : Value) (w : World) (lw : Lw w) (h : TestRd w v t) :
    Calls Tryz.prog 76 #[v] w fun e w' => e = .returned (.int .i64 (checkT t)) ∧ On w w' := by
  have hO := fun W (k : On w W) => ok_is t v W (lw.on k) (h.on k)
  have hG := fun W (k : On w W) => isBig_is t v W (h.on k)
  have hN := fun W (k : On w W) => nowhere_is t v W (h.on k)
  obtain ⟨a1, c1, a2, c2, a3, c3, rfl, hnm, r1, r2, r3⟩ := h.ex
  have hI := fun W (k : On w W) => twice_is t.ini a1 c1 W (r1.on k)
  have k0 : ∀ T, On w (w.alloc T) := fun T => (On.refl w).alloc T
  have bk : ∀ cs T, Bk (w.alloc (.cells cs T)) w.heap.size cs := fun cs T => Bk.new w cs T
  unfold checkT
  clear h r1 r2 r3 lw hnm
  generalize testOk t = b1 at hO ⊢
  generalize bigT t = b2 at hG ⊢
  generalize twiceFrom 0 t.ini = b3 at hI ⊢
  generalize nowhere t = b4 at hN ⊢
  generalize t.ini.length = m1 at *
  generalize t.thr.length = m2 at *
  generalize t.cond.any.length = m3 at *
  generalize t.cond.k = kk at *
  generalize t.name = nm at *
  cases b1 with
  | false =>
    go_enter Tryz.func76, Tryz.ntmps76
    go_wp2_with (go_at_call 93; refine (hO _ (k0 _)).mono ?_; rintro e w1 ⟨rfl, k1⟩)
    go_ret
    exact ⟨rfl, (k0 _).trans k1⟩
  | true =>
    go_enter Tryz.func76, Tryz.ntmps76
    go_wp2_with fail
    refine (hO _ (k0 _)).mono ?_
    rintro e w1 ⟨rfl, k1⟩
    have B1 := (bk _ _).on k1
    have K1 : Hid (On w w1) := (k0 _).trans k1
    have x0 := B1.at (i := 0) rfl
    have x1 := B1.at (i := 1) rfl
    have x2 := B1.at (i := 2) rfl
    have x3 := B1.at (i := 3) rfl
    have x4 := B1.at (i := 4) rfl
    have s1 := B1.lt
    clear hO k1 bk k0
    cases b2 with
    | true =>
      go_wp2_with (go_at_call 94; refine (hG _ K1.out).mono ?_; rintro e w2 ⟨rfl, k2⟩)
      go_ret
      exact ⟨rfl, K1.out.trans k2⟩
    | false =>
      go_wp2_with fail
      refine (hG _ K1.out).mono ?_
      rintro e w2 ⟨rfl, k2⟩
      have B2 := B1.on k2
      have K2 : Hid (On w w2) := K1.out.trans k2
      clear hG k2 K1 B1 x0 x1 x2 x3 x4 s1
      have x1 := B2.at (i := 1) rfl
      have s1 := B2.lt
      cases b3 with
      | true =>
        go_wp2_with (go_at_call 95; refine (hI _ K2.out).mono ?_; rintro e w3 ⟨rfl, k3⟩)
        go_ret
        exact ⟨rfl, K2.out.trans k3⟩
      | false =>
        go_wp2_with fail
        refine (hI _ K2.out).mono ?_
        rintro e w3 ⟨rfl, k3⟩
        have B3 := B2.on k3
        have K3 : Hid (On w w3) := K2.out.trans k3
        clear hI k3 K2 B2 x1 s1
        have x0 := B3.at (i := 0) rfl
        have x1 := B3.at (i := 1) rfl
        have x2 := B3.at (i := 2) rfl
        have x3 := B3.at (i := 3) rfl
        have x4 := B3.at (i := 4) rfl
        have s1 := B3.lt
        cases b4
        all_goals
          go_wp2_with (go_at_call 96; refine (hN _ K3.out).mono ?_; rintro e w4 ⟨rfl, k4⟩)
          go_ret
          exact ⟨rfl, K3.out.trans k4⟩
end Go.Proofs.YtplihlmejnohnaaGreatDoor

namespace Go.Proofs.YtplihlmejnohnaaGreatDoor

def bitsN (n : Nat) : List Nat := (List.range 26).filter (fun i => n.testBit i)
theorem cnt_bits (n : Nat) : cntN n = (bitsN n).length := rfl
theorem letters_bits (n : Nat) : lettersN n = (bitsN n).map (fun i => UInt8.ofNat (97 + i)) := rfl
theorem bits_zero : bitsN 0 = [] := by decide
theorem wlow_bits (k m i : Nat) : (2 ^ k * (2 * m + 1)).testBit i = (decide (i = k) || (2 ^ (k + 1) * m).testBit i) := by
  rw [Nat.mul_comm, Nat.testBit_mul_two_pow, Nat.mul_comm (2 ^ (k + 1)), Nat.testBit_mul_two_pow]
  rcases Nat.lt_trichotomy i k with h | h | h
  · have h1 : ¬ k ≤ i := by omega
    have h2 : ¬ k + 1 ≤ i := by omega
    simp [h1, h2]; omega
  · subst h
    simp [Nat.testBit_zero]
  · obtain ⟨j, rfl⟩ : ∃ j, i = k + (j + 1) := ⟨i - k - 1, by omega⟩
    have e : k + (j + 1) - k = j + 1 := by omega
    have e2 : k + (j + 1) - (k + 1) = j := by omega
    have d : (2 * m + 1) / 2 = m := by omega
    rw [e, e2, Nat.testBit_succ, d]
    simp
theorem wlow_and (k m : Nat) : (2 ^ k * (2 * m + 1)) &&& (2 ^ k * (2 * m + 1) - 1) = 2 ^ (k + 1) * m := by
  have hp : 0 < 2 ^ k := Nat.two_pow_pos k
  have e : 2 ^ k * (2 * m + 1) - 1 = 2 ^ (k + 1) * m + (2 ^ k - 1) := by
    rw [Nat.pow_succ, Nat.mul_add, Nat.mul_one, Nat.mul_assoc]
    omega
  have hlt : 2 ^ k - 1 < 2 ^ (k + 1) := by rw [Nat.pow_succ]; omega
  apply Nat.eq_of_testBit_eq
  intro i
  rw [Nat.testBit_and, wlow_bits, e, Nat.testBit_two_pow_mul_add _ hlt, Nat.mul_comm (2 ^ (k + 1)), Nat.testBit_mul_two_pow]
  by_cases h : i < k + 1
  · have h1 : ¬ k + 1 ≤ i := by omega
    rw [if_pos h, Nat.testBit_two_pow_sub_one]
    simp [h1]
    omega
  · have h1 : k + 1 ≤ i := by omega
    have h2 : ¬ i = k := by omega
    rw [if_neg h]
    simp [h1, h2]
theorem wfilter_cons (A B : Nat → Bool) (k d : Nat) (hA : ∀ i, A i = (decide (i = k) || B i)) (hB : ∀ i, i ≤ k → B i = false) :
    (List.range (k + (d + 1))).filter A = k :: (List.range (k + (d + 1))).filter B := by
  have h1 : (List.range k).filter A = [] := by
    rw [List.filter_eq_nil_iff]
    intro i hi
    have hi' : i < k := by simpa using hi
    rw [hA, hB i (by omega)]
    simp; omega
  have h2 : (List.range k).filter B = [] := by
    rw [List.filter_eq_nil_iff]
    intro i hi
    have hi' : i < k := by simpa using hi
    rw [hB i (by omega)]
    simp
  have h3 : ((List.range d).map (fun i => k + (i + 1))).filter A = ((List.range d).map (fun i => k + (i + 1))).filter B := by
    apply List.filter_congr
    intro i hi
    obtain ⟨j, _, rfl⟩ := List.mem_map.1 hi
    rw [hA]
    simp
  have e : List.range (k + (d + 1)) = List.range k ++ (k :: (List.range d).map (fun i => k + (i + 1))) := by
    rw [List.range_add, List.range_succ_eq_map, List.map_cons, List.map_map]
    rfl
  rw [e, List.filter_append, List.filter_append, h1, h2, List.filter_cons, List.filter_cons, h3, hA k, hB k (Nat.le_refl _)]
  simp
theorem bits_cons (k m : Nat) (hk : k < 26) : bitsN (2 ^ k * (2 * m + 1)) = k :: bitsN (2 ^ (k + 1) * m) := by
  unfold bitsN
  have e : 26 = k + ((25 - k) + 1) := by omega
  rw [e]
  refine wfilter_cons _ _ k (25 - k) (fun i => wlow_bits k m i) (fun i hi => ?_)
  rw [Nat.mul_comm, Nat.testBit_mul_two_pow]
  have : ¬ k + 1 ≤ i := by omega
  simp [this]
/-- The lowest letter, and the others. -/
theorem rise_step (r : Nat) (h0 : r ≠ 0) (h : r < 67108864) : Lib.ctz 32 r < 26 ∧ bitsN r = Lib.ctz 32 r :: bitsN (r &&& (r - 1)) ∧ r &&& (r - 1) < r := by
  obtain ⟨m, hm, _⟩ := Lib.ctzFrom_spec 32 r (by omega) (by omega)
  have e : Lib.ctz 32 r = Lib.ctzFrom 32 r := by simp [Lib.ctz, h0]
  rw [e]
  generalize Lib.ctzFrom 32 r = k at *
  have hp : 0 < 2 ^ k := Nat.two_pow_pos k
  have hle : 2 ^ k ≤ r := by rw [hm]; exact Nat.le_mul_of_pos_right _ (by omega)
  have hk : k < 26 := by
    apply Nat.lt_of_not_le
    intro hh
    have : 2 ^ 26 ≤ 2 ^ k := Nat.pow_le_pow_right (by decide) hh
    omega
  have ha : r &&& (r - 1) = 2 ^ (k + 1) * m := by rw [hm]; exact wlow_and k m
  refine ⟨hk, ?_, ?_⟩
  · rw [ha, hm]; exact bits_cons k m hk
  · rw [ha, hm, Nat.pow_succ, Nat.mul_add, Nat.mul_one, Nat.mul_assoc]; omega
end Go.Proofs.YtplihlmejnohnaaGreatDoor

namespace Go.Proofs.YtplihlmejnohnaaGreatDoor
open Go.RowKit

/-- The table lies where TrailingZeros32 looks. -/
structure Db (w : World) : Prop where
  tab : ∀ j, j < 32 → w.cell? ⟨1, j, none⟩ = some (.int .u8 (Lib.deBruijn32tab.getD j 0 : Nat))
  lt : 1 < w.heap.size
theorem Db.on {w w' : World} (h : Db w) (k : On w w') : Db w' := ⟨fun j hj => (k.cell (p := ⟨1, j, none⟩) h.lt).trans (h.tab j hj), Nat.lt_of_lt_of_le h.lt k.size⟩
theorem wtz_key (x a : Nat) (hx : x < 67108864) (hx0 : x ≠ 0) (hlow : x &&& (4294967296 - x) = a) :
    bits BinOp.and IntKind.u32 (x : Int) (-(x : Int) % 4294967296) * 125613361 % 4294967296 / 134217728 = ((a * 125613361 % 4294967296 / 134217728 : Nat) : Int) := by
  have e1 : -(x : Int) % 4294967296 = ((4294967296 - x : Nat) : Int) := by omega
  rw [e1, u32_and_nat x _ (by omega) (by omega), hlow]
  omega
set_option maxHeartbeats 1000000 in
theorem wtz_core (x k idx : Nat) (w : World) (hx0 : ((x : Int) == 0) = false) (key : bits BinOp.and IntKind.u32 (x : Int) (-(x : Int) % 4294967296) * 125613361 % 4294967296 / 134217728 = (idx : Int))
    (hi : idx < 32) (hk : k < 32) (hcell : w.cell? ⟨1, idx, none⟩ = some (.int .u8 k)) (_ : 1 < w.heap.size) :
    Calls Tryz.prog 118 #[.int .u32 x] w fun e w' => e = .returned (.int .i64 k) ∧ w' = w := by
  go_enter Tryz.func118, Tryz.ntmps118
  go_wp2_with (simp only [key])
  go_ret
  exact ⟨rfl, rfl⟩
theorem wtz_is (x : Nat) (hx : x < 67108864) (hx0 : x ≠ 0) (w : World) (hd : Db w) :
    Calls Tryz.prog 118 #[.int .u32 x] w fun e w' => e = .returned (.int .i64 (Lib.ctz 32 x : Nat)) ∧ w' = w := by
  obtain ⟨hlow, hk⟩ := Lib.lowest_bit 32 x hx0 (by omega)
  obtain ⟨hi, htab⟩ := Lib.deBruijn32_at _ hk
  have hcell := hd.tab _ hi
  rw [htab] at hcell
  exact wtz_core x _ _ w (by simp; omega) (wtz_key x _ hx hx0 hlow) hi hk hcell hd.lt

theorem letter_val {k : Nat} (h : k < 26) : (97 + (k : Int)) = ((UInt8.ofNat (97 + k)).toNat : Int) := by
  have : (UInt8.ofNat (97 + k)).toNat = 97 + k := by rw [UInt8.toNat_ofNat']; omega
  omega
theorem wand_less (r : Nat) (h : r < 67108864) (h0 : r ≠ 0) : bits .and .u32 (r : Int) ((r : Int) - 1) = ((r &&& (r - 1) : Nat) : Int) := by
  have := u32_and_nat r (r - 1) (by omega) (by omega)
  rw [← this]
  congr 1
  omega
set_option maxHeartbeats 4000000 in
set_option maxRecDepth 8000 in
theorem rising_is (n : Nat) (hn : n < 67108864) (w : World) (hd : Db w) :
    Calls Tryz.prog 98 #[.int .u32 n] w fun e w' => ∃ a c, e = .returned (.slice a (lettersN n).length c) ∧ w'.ownsRow w.heap.size 5 1 (.slice a (lettersN n).length c) (lettersN n).length ((lettersN n).map byteV) ∧ On w w' := by
  obtain ⟨i0, hi, hz0, hz1, hz2⟩ := info_parts infoByte
  have HD : Hid (Db w) := hd
  have hcl : (lettersN n).length ≤ 26 := by
    rw [letters_bits, List.length_map, ← cnt_bits]
    unfold cntN
    have := List.length_filter_le (fun i => n.testBit i) (List.range 26)
    simpa using this
  have hcn : cntN n = (lettersN n).length := by rw [letters_bits, List.length_map, cnt_bits]
  obtain ⟨LT, hLT⟩ : ∃ LT, LT = lettersN n := ⟨_, rfl⟩
  rw [← hLT] at hcl hcn ⊢
  have hC := fun W => count_is n hn W
  rw [hcn] at hC
  have HL : Hid (LT = [] ++ lettersN n) := hLT
  clear hLT hcn hd
  go_enter Tryz.func98, Tryz.ntmps98
  go_wp2_with fail
  refine (hC _).mono ?_
  rintro e w1 ⟨rfl, k1⟩
  obtain ⟨w2, hmk, hown, hgr⟩ := run_make_own (P := Tryz.prog) w1 w.heap.size 23 5 i0 (.int .u8 0) 1 Tryz.underlying23 hi hz0 hz1 .i64 .i64 LT.length (by rw [hz2]; omega) (by unfold maxLen; omega) k1.size
  have K2 : Hid (On w w2) := k1.grownNone hgr
  clear hgr k1 hC
  go_wp2
  clear hmk
  go_loopg [3, 4] n (fun gg s3 s4 wr => ∃ (r : Nat) (L : List UInt8), gg = r ∧ s4 = .int .u32 r ∧ r < 67108864 ∧ wr.ownsRow w.heap.size 5 1 s3 L.length (L.map byteV) ∧ L.length ≤ 26 ∧ Hid (On w wr) ∧ Hid (LT = L ++ lettersN r))
  case atStart => exact ⟨n, [], rfl, rfl, hn, hown, by decide, K2, HL⟩
  case round =>
    clear HL K2 hown
    obtain ⟨r, L, hg, rfl, hr, hown, hL26, HO, HL⟩ := hrel
    by_cases h0 : r = 0
    · subst h0
      have e : LT = L := by rw [HL.out, letters_bits, bits_zero]; simp
      subst e
      obtain ⟨a, c, rfl⟩ := own_slice hown
      go_wp2
      go_ret
      exact ⟨a, c, rfl, hown, HO.out⟩
    · obtain ⟨hk, hb, hless⟩ := rise_step r h0 hr
      have hT := wtz_is r hr h0 wr (HD.out.on HO.out)
      obtain ⟨b, hbe, hv⟩ : ∃ b : UInt8, Hid (b = UInt8.ofNat (97 + Lib.ctz 32 r)) ∧ 97 + (Lib.ctz 32 r : Int) = (b.toNat : Int) := ⟨_, rfl, letter_val hk⟩
      have hb256 : (b.toNat : Int) < 256 := by have := b.toNat_lt; omega
      have hand := wand_less r hr h0
      have HL2 : Hid (LT = (L ++ [b]) ++ lettersN (r &&& (r - 1))) := by
        show LT = _
        rw [hbe.out, HL.out, letters_bits, hb, letters_bits]
        simp
      have hr2 : (r &&& (r - 1)) < 67108864 := by omega
      have h26 : (L ++ [b]).length ≤ 26 := by
        have := congrArg List.length HL2.out
        rw [List.length_append] at this
        omega
      have hr0 : ((r : Int) == 0) = false := by simpa using (by omega : ¬ (r : Int) = 0)
      clear HL hb hbe
      generalize Lib.ctz 32 r = k at *
      generalize r &&& (r - 1) = r2 at *
      have hlt : ∀ g, u3.ownBlock = some g → w.heap.size ≤ g := fun g hg => (hown.lt g hg).1
      go_wp2_with fail
      refine hT.mono ?_
      rintro e w3 ⟨rfl, rfl⟩
      go_wp2_with (at_builtin; refine wpList_append_own _ rfl _ _ 23 rfl w.heap.size 5 i0 (.int .u8 0) 1 1 Tryz.underlying23 hi hz0 hz1 hz2 rfl (by decide) _ _ _ rfl (hown.alloc _) ⟨w3.heap.size, 0, none⟩ 1 1 [byteV b] rfl rfl ?c1 ?c2 ?c3 ?c4 ?c5 ?_)
      case c1 =>
        intro j u hu
        rw [new_cell]
        exact hu
      case c2 =>
        intro u hu
        simp only [List.mem_cons, List.not_mem_nil, or_false] at hu
        subst hu
        rfl
      case c3 => unfold maxLen; omega
      case c4 => omega
      case c5 => simp only [World.size_alloc]; have := HO.out.size; omega
      intro v' w4 hown4 hg4 _
      go_wp2
      go_roundg r2
      case measure => omega
      case rel =>
        exact ⟨r2, L ++ [b], rfl, rfl, hr2, by simpa using hown4, h26, (HO.out.alloc _).grown hg4 hlt, HL2⟩
set_option maxHeartbeats 1000000 in
theorem locs_is (t : TestT) (v : Value) (w : World) (hd : Db w) (h : TestRd w v t) :
    Calls Tryz.prog 77 #[v] w fun e w' => ∃ a c, e = .returned (.slice a (lettersN (locsN t)).length c) ∧ w'.ownsRow w.heap.size 5 1 (.slice a (lettersN (locsN t)).length c) (lettersN (locsN t)).length ((lettersN (locsN t)).map byteV) ∧ On w w' := by
  have hL := fun W (k : On w W) => locations_is t v W (h.on k)
  have hR := fun W (k : On w W) => rising_is (locsN t) (locsN_lt t) W (hd.on k)
  obtain ⟨a1, c1, a2, c2, a3, c3, rfl, hnm, r1, r2, r3⟩ := h.ex
  have k0 : ∀ T, On w (w.alloc T) := fun T => (On.refl w).alloc T
  clear h r1 r2 r3 hnm hd
  generalize locsN t = N at *
  generalize t.ini.length = m1 at *
  generalize t.thr.length = m2 at *
  generalize t.cond.any.length = m3 at *
  generalize t.cond.k = kk at *
  generalize t.name = nm at *
  generalize lettersN N = LT at *
  go_enter Tryz.func77, Tryz.ntmps77
  go_wp2_with fail
  refine (hL _ (k0 _)).mono ?_
  rintro e w1 ⟨rfl, k1⟩
  have K1 : Hid (On w w1) := (k0 _).trans k1
  clear k1 k0 hL
  go_wp2_with fail
  refine (hR _ K1.out).mono ?_
  rintro e w2 ⟨a, c, rfl, ho, k2⟩
  go_wp2
  go_ret
  exact ⟨a, c, rfl, own_mono ho K1.out.size, K1.out.trans k2⟩
end Go.Proofs.YtplihlmejnohnaaGreatDoor
