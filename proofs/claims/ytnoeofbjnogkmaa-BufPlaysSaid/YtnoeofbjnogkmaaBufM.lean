/- BufPlays' first: where the oldest store stands in a row. -/
import Derived.Test.YtnoeofbjnogkmaaBufG
namespace Go.Proofs.Ytnoeofbjnogkmaa
open Go.RowKit

/-- The cells of a store in a row that is read. -/
structure EnAt (W : World) (g i : Nat) (e : EnT) : Prop where
  lt : g < W.heap.size
  r : W.rangeAt g i (entC e)
theorem EnAt.c0 {W : World} {g i : Nat} {e : EnT} (h : EnAt W g i e) : W.cell? ⟨g, i, none⟩ = some (.int .i64 e.1) := h.r 0 _ rfl
theorem EnAt.c1 {W : World} {g i : Nat} {e : EnT} (h : EnAt W g i e) : W.cell? ⟨g, i + 1, none⟩ = some (.int .i64 e.2.1) := h.r 1 _ rfl
theorem EnAt.c2 {W : World} {g i : Nat} {e : EnT} (h : EnAt W g i e) : W.cell? ⟨g, i + 2, none⟩ = some (.int .i64 e.2.2) := h.r 2 _ rfl
theorem EnAt.on {W W' : World} {g i : Nat} {e : EnT} (h : EnAt W g i e) (k : On W W') : EnAt W' g i e :=
  ⟨Nat.lt_of_lt_of_le h.lt k.size, fun j v hv => (k.cell (p := ⟨g, i + j, none⟩) h.lt).trans (h.r j v hv)⟩
theorem rd_ents {w : World} {a : Option Addr} {n c : Nat} {L : List EnT} (h : Rd entC 3 w (.slice a n c) L) (h0 : 0 < L.length) : ∃ g off, a = some ⟨g, off, none⟩ ∧ ∀ (i : Nat) (e : EnT), L[i]? = some e → EnAt w g (off + i * 3) e := by
  obtain ⟨a', c', hv, _, _, hr⟩ := h
  simp only [Value.slice.injEq] at hv
  obtain ⟨g, off, ha, hg, hc⟩ := hr h0
  exact ⟨g, off, by rw [hv.1, ha], fun i e he => ⟨hg, fun j v hj => hc i e j v he hj⟩⟩
/-- What first answers. -/
def firstV (m : Int) (w : List EnT) (c : Int) : Int := if fstN m w c < w.length then (fstN m w c : Int) else -1
theorem fst_le (m : Int) (w : List EnT) (c : Int) : fstN m w c ≤ w.length := twN_le w
theorem fst_go {m c : Int} {w : List EnT} {k : Nat} {e : EnT} (hk : k ≤ fstN m w c) (he : w[k]? = some e) (h : seesW m c e = false) : k + 1 ≤ fstN m w c := twN_go (p := fun e => !(seesW m c e)) _ _ _ hk he (by simp [h])
theorem fst_stop {m c : Int} {w : List EnT} {k : Nat} {e : EnT} (hk : k ≤ fstN m w c) (he : w[k]? = some e) (h : seesW m c e = true) : firstV m w c = k := by
  have h1 : k = fstN m w c := twN_stop (p := fun e => !(seesW m c e)) _ _ _ hk he (by simp [h])
  have h2 := (List.getElem?_eq_some_iff.1 he).1
  unfold firstV
  rw [← h1, if_pos h2]
theorem fst_end {m c : Int} {w : List EnT} (hk : w.length ≤ fstN m w c) : firstV m w c = -1 := if_neg (by omega)
theorem lt_no {i n : Nat} (h : n ≤ i) : decide (i < n) = false ∧ decide ((i : Int) < (n : Int)) = false := ⟨decide_eq_false (by omega), decide_eq_false (by omega)⟩
set_option maxHeartbeats 2000000 in
set_option maxRecDepth 8000 in
theorem first_is (a : Option Addr) (n cap : Nat) (wl : List EnT) (m c : Int) (w : World) (hr : Rd entC 3 w (.slice a n cap) wl) (h24 : wl.length ≤ 24) : Calls Try.prog 14 #[.slice a n cap, .int .i64 m, .int .i64 c] w fun e w' => e = .returned (.int .i64 (firstV m wl c)) ∧ On w w' := by
  have hn : n = wl.length := hr.len
  have HN : Hid (n = wl.length) := hn
  have H24 : Hid (n ≤ 24) := by show n ≤ 24; omega
  have HR : Hid (Rd entC 3 w (.slice a n cap) wl) := hr
  obtain ⟨ans, hans⟩ : ∃ ans, ans = firstV m wl c := ⟨_, rfl⟩
  have HANS : Hid (ans = firstV m wl c) := hans
  rw [← hans]
  clear hr h24 hn hans
  go_enter Try.func14, Try.ntmps14
  go_wp2
  go_loopg [7] n (fun gg s7 wr => ∃ i : Nat, i ≤ n ∧ gg = n - i ∧ s7 = .int .i64 (i : Nat) ∧ Hid (i ≤ fstN m wl c) ∧ Hid (On w wr))
  case atStart => exact ⟨0, Nat.zero_le _, rfl, rfl, Nat.zero_le _, On.refl w⟩
  case round =>
    obtain ⟨i, hin, hg, rfl, HF, HO⟩ := hrel
    have HI : Hid (i ≤ n) := hin
    have HG : Hid (gk = n - i) := hg
    clear hin hg
    rcases Nat.lt_or_ge i n with hlt | hge
    · have hiL : i < wl.length := by rw [← HN.out]; exact hlt
      obtain ⟨e, he⟩ : ∃ e, wl[i]? = some e := ⟨_, List.getElem?_eq_getElem hiL⟩
      obtain ⟨g, off, hae, hea⟩ := rd_ents HR.out (Nat.lt_of_le_of_lt (Nat.zero_le _) hiL)
      subst hae
      have hE := (hea i e he).on HO.out
      have f0 := hE.c0
      have fl := hE.lt
      have d1 : (i : Int) < (n : Int) := nat_lt hlt
      have d2 : decide ((i : Int) < 0) = false := nat_nn i
      have d4 : (0 : Int) ≤ (i : Int) := nat_0 i
      have HL : Hid (i < n) := hlt
      have hov : wrap64 ((i : Int) + 1) = ((i + 1 : Nat) : Int) := wrapN (Nat.le_trans (Nat.le_of_lt hlt) (Nat.le_trans H24.out (by decide)))
      have hs : (m == 2) = true ∧ seesW m c e = true ∨ ((m == 2) = false ∧ (e.1 == c) = true ∧ seesW m c e = true) ∨ ((m == 2) = false ∧ (e.1 == c) = false ∧ seesW m c e = false) := by
        unfold seesW
        cases (m == 2) <;> cases (e.1 == c) <;> simp
      clear hea hlt hiL hE
      rcases hs with ⟨h1, h3⟩ | ⟨h1, h2, h3⟩ | ⟨h1, h2, h3⟩
      · have HA : Hid (ans = i) := HANS.out.trans (fst_stop HF.out he h3)
        clear h3 he
        generalize e.1 = el at *
        go_wp2
        go_ret
        exact ⟨by rw [HA.out]; rfl, HO.out⟩
      · have HA : Hid (ans = i) := HANS.out.trans (fst_stop HF.out he h3)
        clear h3 he
        generalize e.1 = el at *
        go_wp2
        go_ret
        exact ⟨by rw [HA.out]; rfl, HO.out⟩
      · have HF2 : Hid (i + 1 ≤ fstN m wl c) := fst_go HF.out he h3
        clear h3 he
        generalize e.1 = el at *
        go_wp2
        go_roundg (n - (i + 1))
        case measure => have := HL.out; have := HG.out; omega
        case rel => exact ⟨i + 1, HL.out, rfl, by go_num, HF2, HO⟩
    · have HA : Hid (ans = -1) := HANS.out.trans (fst_end (by have := HF.out; have := HN.out; omega))
      obtain ⟨b1, b2⟩ := lt_no hge
      clear hge
      go_wp2
      go_ret
      exact ⟨by rw [HA.out]; rfl, HO.out⟩
end Go.Proofs.Ytnoeofbjnogkmaa
