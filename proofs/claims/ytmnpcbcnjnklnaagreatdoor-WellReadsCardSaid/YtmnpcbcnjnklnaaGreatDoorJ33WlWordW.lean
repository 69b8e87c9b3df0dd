/- Lists in memory as they are read: each thing some cells, a row of rows. -/
import Derived.Test.YtmnpcbcnjnklnaaGreatDoorJ31WlROkA
import Derived.Deep.LoopGhost
import Derived.Laws.IdiomStrings
namespace Go.Proofs.YtmnpcbcnjnklnaaGreatDoor.Wl
open Go.RowKit

def iniC (x : InitT) : List Value := [.int .i64 x.l, .int .i64 x.v]
def atomC (x : AtomT) : List Value := [.int .i64 x.t, .int .i64 x.r, .int .i64 x.l, .int .i64 x.v]
def insC (x : InsT) : List Value := [.int .i64 x.k, .int .i64 x.r, .int .i64 x.l, .int .i64 x.a.r, .int .i64 x.a.v, .int .i64 x.o, .int .i64 x.b.r, .int .i64 x.b.v, .int .i64 x.n]

/-- v holds this list: each thing k cells, one behind the other. -/
def Rd {α : Type} (C : α → List Value) (k : Nat) (w : World) (v : Value) (L : List α) : Prop :=
  ∃ a c, v = .slice a L.length c ∧ L.length ≤ c ∧ L.length ≤ 9223372036854775807 ∧
    (0 < L.length → ∃ g off, a = some ⟨g, off, none⟩ ∧ g < w.heap.size ∧ ∀ (i : Nat) (x : α) (j : Nat) (u : Value), L[i]? = some x → (C x)[j]? = some u → w.cell? ⟨g, off + i * k + j, none⟩ = some u)
def oneC (v : Value) : List Value := [v]
/-- v holds these rows. -/
def Rd2 {α : Type} (C : α → List Value) (k : Nat) (w : World) (v : Value) (LL : List (List α)) : Prop :=
  ∃ vs : List Value, vs.length = LL.length ∧ Rd oneC 1 w v vs ∧ ∀ (i : Nat) (u : Value) (L : List α), vs[i]? = some u → LL[i]? = some L → Rd C k w u L
theorem flat_at {α : Type} (C : α → List Value) (n : Nat) (hC : ∀ x, (C x).length = n) : ∀ (L : List α) (k j : Nat) (x : α), L[k]? = some x → j < n → (L.flatMap C)[k * n + j]? = (C x)[j]?
  | [], k, j, x, h, _ => by simp at h
  | y :: L, 0, j, x, h, hj => by
    simp only [List.getElem?_cons_zero, Option.some.injEq] at h
    subst h
    rw [List.flatMap_cons, Nat.zero_mul, Nat.zero_add, List.getElem?_append_left (by rw [hC]; exact hj)]
  | y :: L, k + 1, j, x, h, hj => by
    rw [List.getElem?_cons_succ] at h
    rw [List.flatMap_cons, List.getElem?_append_right (by rw [hC, Nat.succ_mul]; omega), hC]
    have e : (k + 1) * n + j - n = k * n + j := by rw [Nat.succ_mul]; omega
    rw [e]
    exact flat_at C n hC L k j x h hj
theorem own_cells {w : World} {base k n : Nat} {e : TypeId} {v : Value} {xs : List Value} (h : w.ownsRow base e k v n xs) (hn : 0 < n) :
    ∃ g cap, v = .slice (some ⟨g, 0, none⟩) n cap ∧ n ≤ cap ∧ base ≤ g ∧ g < w.heap.size ∧ ∀ i u, xs[i]? = some u → w.cell? ⟨g, i, none⟩ = some u := by
  rcases h.2 with ⟨_, h0⟩ | ⟨g, cap, cur, hv, hb, hh, hc, _, _, ht⟩
  · omega
  · refine ⟨g, cap, hv, hc, hb, lt_of_block hh, fun i u hi => ?_⟩
    rw [← ht, List.getElem?_take] at hi
    split at hi
    · simp only [World.cell?, hh]
      simpa using hi
    · cases hi
theorem own_max {w : World} {base k n : Nat} {e : TypeId} {v : Value} {xs : List Value} (h : w.ownsRow base e k v n xs) : n ≤ 9223372036854775807 := by
  rcases h.2 with ⟨_, h0⟩ | ⟨g, cap, cur, hv, hb, hh, hc, hm, _⟩
  · omega
  · exact Nat.le_trans hc hm
section
variable {α : Type} {C : α → List Value} {k : Nat} {w w' : World} {v : Value} {L : List α} {LL : List (List α)}
theorem Rd.on (h : Rd C k w v L) (o : On w w') : Rd C k w' v L := by
  obtain ⟨a, c, hv, hc, hm, h⟩ := h
  refine ⟨a, c, hv, hc, hm, fun hl => ?_⟩
  obtain ⟨g, off, ha, hg, hr⟩ := h hl
  exact ⟨g, off, ha, Nat.lt_of_lt_of_le hg o.size, fun i x j u hi hj => (o.cell (p := ⟨g, off + i * k + j, none⟩) hg).trans (hr i x j u hi hj)⟩
theorem Rd2.on (h : Rd2 C k w v LL) (o : On w w') : Rd2 C k w' v LL := by
  obtain ⟨vs, h1, h2, h3⟩ := h
  exact ⟨vs, h1, h2.on o, fun i u L a b => (h3 i u L a b).on o⟩
theorem Rd.nil (C : α → List Value) (k : Nat) (w : World) : Rd C k w (.slice none 0 0) [] := ⟨none, 0, rfl, Nat.le_refl _, by simp, fun h => absurd h (Nat.lt_irrefl 0)⟩
theorem Rd2.nil (C : α → List Value) (k : Nat) (w : World) : Rd2 C k w (.slice none 0 0) [] := ⟨[], rfl, Rd.nil _ _ _, fun i u L a _ => by simp at a⟩
theorem Rd.slice (h : Rd C k w v L) : ∃ a c, v = .slice a L.length c ∧ L.length ≤ c ∧ L.length ≤ 9223372036854775807 := by
  obtain ⟨a, c, hv, hc, hm, _⟩ := h
  exact ⟨a, c, hv, hc, hm⟩
theorem Rd2.slice (h : Rd2 C k w v LL) : ∃ a c, v = .slice a LL.length c ∧ LL.length ≤ c ∧ LL.length ≤ 9223372036854775807 := by
  obtain ⟨vs, h1, h2, _⟩ := h
  rw [← h1]
  exact h2.slice
theorem Rd.own {base : Nat} {e : TypeId} (hC : ∀ x, (C x).length = k) (h : w.ownsRow base e k v L.length (L.flatMap C)) : Rd C k w v L := by
  rcases Nat.eq_zero_or_pos L.length with h0 | h0
  · obtain rfl : L = [] := List.eq_nil_of_length_eq_zero h0
    rcases h.2 with ⟨hv, _⟩ | ⟨g, cap, cur, hv, hb, hh, hc, hm, _⟩
    · rw [hv]; exact Rd.nil _ _ _
    · exact ⟨_, cap, hv, hc, by simp, fun h => absurd h (Nat.lt_irrefl 0)⟩
  · obtain ⟨g, cap, hv, hc, _, hg, hr⟩ := own_cells h h0
    refine ⟨_, cap, hv, hc, own_max h, fun _ => ⟨g, 0, rfl, hg, fun i x j u hi hj => ?_⟩⟩
    rw [Nat.zero_add]
    refine hr _ _ ?_
    have hj' : j < k := by have := (List.getElem?_eq_some_iff.1 hj).1; rwa [hC] at this
    rw [flat_at C k hC L i j x hi hj', hj]
theorem Rd.at {a : Option Addr} {c : Nat} (h : Rd C k w (.slice a L.length c) L) {i : Nat} {x : α} (hi : L[i]? = some x) :
    ∃ g off, a = some ⟨g, off, none⟩ ∧ g < w.heap.size ∧ ∀ (j : Nat) (u : Value), (C x)[j]? = some u → w.cell? ⟨g, off + i * k + j, none⟩ = some u := by
  obtain ⟨a', c', hv, hc, hm, hr⟩ := h
  simp only [Value.slice.injEq] at hv
  obtain ⟨rfl, _, rfl⟩ := hv
  have hlt : i < L.length := (List.getElem?_eq_some_iff.1 hi).1
  obtain ⟨g, off, ha, hg, hcell⟩ := hr (by omega)
  exact ⟨g, off, ha, hg, fun j u hj => hcell i x j u hi hj⟩
theorem Rd2.row {a : Option Addr} {c : Nat} (h : Rd2 C k w (.slice a LL.length c) LL) {i : Nat} {L : List α} (hi : LL[i]? = some L) :
    ∃ g off, a = some ⟨g, off, none⟩ ∧ g < w.heap.size ∧ ∃ ax cx, w.cell? ⟨g, off + i, none⟩ = some (.slice ax L.length cx) ∧ L.length ≤ 9223372036854775807 ∧ Rd C k w (.slice ax L.length cx) L := by
  obtain ⟨vs, hl, h1, h2⟩ := h
  have hlt : i < LL.length := (List.getElem?_eq_some_iff.1 hi).1
  obtain ⟨u, hu⟩ : ∃ u, vs[i]? = some u := ⟨_, List.getElem?_eq_getElem (by omega)⟩
  rw [← hl] at h1
  obtain ⟨g, off, ha, hg, hc⟩ := h1.at hu
  have hr := h2 i u L hu hi
  obtain ⟨ax, cx, rfl, _, hm⟩ := hr.slice
  exact ⟨g, off, ha, hg, ax, cx, by have := hc 0 _ rfl; simpa using this, hm, hr⟩
end
end Go.Proofs.YtmnpcbcnjnklnaaGreatDoor.Wl

namespace Go.Proofs.YtmnpcbcnjnklnaaGreatDoor.Wl
open Go.RowKit

theorem chs_at : ∀ (l : List UInt8) (i n : Nat) (c : UInt8), l[n]? = some c → chsOk i l = true → chOk (i + n) c = true
  | [], i, n, c, h, _ => by simp at h
  | x :: l, i, 0, c, h, hk => by
    simp only [List.getElem?_cons_zero, Option.some.injEq] at h
    subst h
    unfold chsOk at hk
    simp only [Bool.and_eq_true] at hk
    exact hk.1
  | x :: l, i, n + 1, c, h, hk => by
    rw [List.getElem?_cons_succ] at h
    unfold chsOk at hk
    simp only [Bool.and_eq_true] at hk
    have := chs_at l (i + 1) n c h hk.2
    rwa [show i + 1 + n = i + (n + 1) by omega] at this
theorem chs_all : ∀ (l : List UInt8) (i : Nat), (∀ n c, l[n]? = some c → chOk (i + n) c = true) → chsOk i l = true
  | [], _, _ => rfl
  | x :: l, i, h => by
    unfold chsOk
    rw [show chOk i x = true from h 0 x rfl, chs_all l (i + 1) (fun n c hn => by
      have := h (n + 1) c (by rw [List.getElem?_cons_succ]; exact hn)
      rwa [show i + (n + 1) = i + 1 + n by omega] at this)]
    rfl
theorem word_no {s : ByteArray} {n : Nat} {c : UInt8} (h : s.data.toList[n]? = some c) (hc : chOk n c = false) : wordOk s = false := by
  unfold wordOk
  cases hk : chsOk 0 s.data.toList with
  | true => have := chs_at _ 0 n c h hk; rw [Nat.zero_add, hc] at this; cases this
  | false => rfl
theorem toList_nil {s : ByteArray} (h : s.size = 0) : s.toList = [] := by
  rw [ByteArray.toList_eq]
  exact List.eq_nil_of_length_eq_zero (by rw [Array.length_toList]; exact h)
theorem toList_ne {s : ByteArray} (h : 0 < s.size) : ¬ s.toList = [] := by
  rw [ByteArray.toList_eq]
  intro h'
  have := congrArg List.length h'
  rw [Array.length_toList] at this
  have h2 : s.data.size = 0 := this
  have h3 : s.size = s.data.size := rfl
  omega
set_option maxHeartbeats 4000000 in
set_option maxRecDepth 8000 in
theorem isWord_is (s : ByteArray) (w : World) (hs : s.size ≤ 9223372036854775807) :
    Calls Tryz.prog 47 #[.string s] w fun e w' => e = .returned (.bool (wordOk s)) ∧ On w w' := by
  obtain ⟨cap, W, hconv, hW, hcell⟩ : ∃ cap W, (convert 9 46 (.string s)).run Tryz.prog w = .ok (.slice (some ⟨w.heap.size, 0, none⟩) s.size cap) W ∧ On w W ∧ (∀ j (hj : j < s.data.size), W.cell? ⟨w.heap.size, j, none⟩ = some (.int .u8 (s.data[j].toNat : Int))) := by
    refine ⟨_, _, run_bytes_of_string w _ _ 5 s Tryz.underlying9 Tryz.underlying46 Tryz.underlying5, (On.refl w).drew.alloc _, fun j hj => ?_⟩
    have := World.cell?_alloc_mark w.drew (bytesRow s (grownCap w s.size 0 5)) 5 ((bytesRow s (grownCap w s.size 0 5)).size, (bytesRow s (grownCap w s.size 0 5)).size + 1) j
    exact this.trans (bytesRow_at s _ j hj)
  have hwW : w.heap.size < W.heap.size ∨ s.data.size = 0 := by
    rcases Nat.eq_zero_or_pos s.data.size with h | h
    · exact Or.inr h
    · left
      have := hcell 0 h
      rcases Nat.lt_or_ge w.heap.size W.heap.size with h' | h'
      · exact h'
      · simp [World.cell?, Array.getElem?_eq_none h'] at this
  have HC : Hid _ := hcell
  have HW : Hid (On w W) := hW
  clear hcell hW
  go_enter Tryz.func47, Tryz.ntmps47
  go_wp2
  clear hconv
  go_loopg [3, 4, 5, 9] s.size (fun gg _ _ _ s9 wr => ∃ n : Nat, n ≤ s.size ∧ gg = s.size - n ∧ s9 = .int .i64 n ∧ wr = W ∧ Hid (∀ j c, j < n → s.data.toList[j]? = some c → chOk j c = true))
  case atStart => exact ⟨0, Nat.zero_le _, rfl, rfl, rfl, fun j c hj => absurd hj (Nat.not_lt_zero _)⟩
  case round =>
    obtain ⟨n, hn, hk, rfl, rfl, hall⟩ := hrel
    rcases Nat.lt_or_ge n s.size with hlt | hge
    · have hsz : s.size = s.data.size := rfl
      obtain ⟨c, hc⟩ : ∃ c, c = s.data[n]'(by omega) := ⟨_, rfl⟩
      have hx : Hid (s.data.toList[n]? = some c) := by
        show s.data.toList[n]? = some c
        rw [hc, List.getElem?_eq_getElem (by simpa using hlt)]; simp
      have u0 : wr.cell? ⟨w.heap.size, n, none⟩ = some (.int .u8 (c.toNat : Int)) := by rw [hc]; exact HC.out n (by omega)
      have hlw : w.heap.size < wr.heap.size := by omega
      have hcb : (c.toNat : Int) < 256 := by have := c.toNat_lt; omega
      have hlo := fun W => isLocation_is (c.toNat : Int) W
      clear hc hsz
      have step : ∀ (h : chOk n c = true), Hid (∀ j c', j < n + 1 → s.data.toList[j]? = some c' → chOk j c' = true) := fun h j c' hj hj' => by
        rcases Nat.lt_or_ge j n with h' | h'
        · exact hall.out j c' h' hj'
        · obtain rfl : j = n := by omega
          rw [hx.out] at hj'
          cases hj'
          exact h
      have hch : Hid (chOk n c = (locOk c.toNat || (decide (0 < n) && (decide (48 ≤ c.toNat) && decide (c.toNat ≤ 57))))) := rfl
      cases hl : locOk (c.toNat : Int) with
      | true =>
        rw [hl] at hlo
        have hok : Hid (chOk n c = true) := by rw [Hid, hch.out, hl]; rfl
        by_cases h48 : (48 : Int) ≤ c.toNat
        all_goals
          go_wp2_with (go_at_call 79; refine (hlo _).mono ?_; rintro e w1 ⟨rfl, rfl⟩)
          go_roundg (s.size - (n + 1))
          case measure => omega
          case rel => exact ⟨n + 1, by omega, rfl, by go_num, rfl, step hok.out⟩
      | false =>
        rw [hl] at hlo
        rcases Nat.eq_zero_or_pos n with h0 | h0
        · subst h0
          have hno : Hid (wordOk s = false) := word_no hx.out (by rw [hch.out, hl]; rfl)
          by_cases h48 : (48 : Int) ≤ c.toNat
          all_goals
            go_wp2_with (go_at_call 79; refine (hlo _).mono ?_; rintro e w1 ⟨rfl, rfl⟩)
            go_ret
            exact ⟨by rw [hno.out]; rfl, HW.out⟩
        · have hn0 : ¬ (n : Int) = 0 := by omega
          by_cases h48 : (48 : Int) ≤ c.toNat
          · by_cases h57 : (c.toNat : Int) ≤ 57
            · have hok : Hid (chOk n c = true) := by
                rw [Hid, hch.out]; simp; right; omega
              go_wp2_with (go_at_call 79; refine (hlo _).mono ?_; rintro e w1 ⟨rfl, rfl⟩)
              go_roundg (s.size - (n + 1))
              case measure => omega
              case rel => exact ⟨n + 1, by omega, rfl, by go_num, rfl, step hok.out⟩
            · have hno : Hid (wordOk s = false) := word_no hx.out (by rw [hch.out, hl]; simp; omega)
              go_wp2_with (go_at_call 79; refine (hlo _).mono ?_; rintro e w1 ⟨rfl, rfl⟩)
              go_ret
              exact ⟨by rw [hno.out]; rfl, HW.out⟩
          · have hno : Hid (wordOk s = false) := word_no hx.out (by rw [hch.out, hl]; simp; omega)
            go_wp2_with (go_at_call 79; refine (hlo _).mono ?_; rintro e w1 ⟨rfl, rfl⟩)
            go_ret
            exact ⟨by rw [hno.out]; rfl, HW.out⟩
    · have hyes : Hid (wordOk s = decide (0 < s.size)) := by
        show wordOk s = _
        unfold wordOk
        rw [chs_all _ 0 (fun j c hj => by
          rw [Nat.zero_add]
          refine hall.out j c ?_ hj
          have := (List.getElem?_eq_some_iff.1 hj).1
          have hsz : s.size = s.data.size := rfl
          simp at this; omega)]
        rfl
      rcases Nat.eq_zero_or_pos s.size with h0 | h0
      · have he := toList_nil h0
        go_wp2
        go_ret
        exact ⟨by rw [hyes.out]; simp [h0], HW.out⟩
      · have he := toList_ne h0
        go_wp2
        go_ret
        exact ⟨by rw [hyes.out, decide_eq_true h0]; simp [he], HW.out⟩
end Go.Proofs.YtmnpcbcnjnklnaaGreatDoor.Wl
