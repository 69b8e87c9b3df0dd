/- What waits, counted. In plain Lean. -/
import Derived.Test.YtplihlmejnohnaaGreatDoorJ29VmP
import Derived.Test.YtplihlmejnohnaaGreatDoorJ48Awake16
import Derived.Test.YtplihlmejnohnaaGreatDoorJ50AgOf
import Derived.Test.YtplihlmejnohnaaGreatDoorJ14SmallP
namespace Go.Proofs.YtplihlmejnohnaaGreatDoor
open Go.RowKit

/-- How many stores wait that a flush of number q is for. -/
def cntQ (V : VmT) (q : Nat) : Nat :=
  if V.m = 3 then (if 8 ≤ q ∧ q < 24 then (filtW 3 (V.b (cT q)) (cC q)).length else 0) else (if 4 ≤ q ∧ q < 8 then (V.b (q - 4)).length else 0)
def qqS (m : Int) (s : StT) : Int := if m = 3 then 8 + 4 * s.t + s.l else 4 + s.t
theorem isSome_lt {α : Type} (l : List α) (i : Nat) : (l[i]?).isSome = decide (i < l.length) := by
  by_cases h : i < l.length
  · rw [List.getElem?_eq_getElem h, decide_eq_true h]
    rfl
  · rw [List.getElem?_eq_none (by omega), decide_eq_false h]
    rfl
theorem fst_two (w : List EnT) (c : Int) : fstN 2 w c = 0 := by
  unfold fstN
  rw [seesW_two]
  cases w with
  | nil => rfl
  | cons e w => exact twN_false rfl
theorem may_cnt (LL : List (List InsT)) (V : VmT) (hm : V.m = 2 ∨ V.m = 3) {q : Nat} (h4 : 4 ≤ q) (h24 : q < 24) : mayN LL V q = decide (0 < cntQ V q) := by
  unfold mayN cntQ
  rw [if_neg (by omega)]
  unfold oldW
  rw [isSome_lt]
  rcases hm with hm | hm
  · rw [hm, fst_two, if_neg (show ¬ (2 : Int) = 3 by decide)]
    by_cases h8 : q < 8
    · rw [if_pos h8, if_pos ⟨h4, h8⟩]
      unfold cT
      rw [if_pos h8]
      rfl
    · rw [if_neg h8, if_neg (by omega)]
      rfl
  · rw [hm, if_pos rfl]
    by_cases h8 : q < 8
    · rw [if_pos h8, if_neg (by omega)]
      rfl
    · rw [if_neg h8, if_pos (by omega)]
      show (true && decide _) = _
      rw [Bool.true_and]
      apply decide_eq_decide.2
      rw [fst_found]
      exact List.ne_nil_iff_length_pos
theorem filt_app (m : Int) (w : List EnT) (e : EnT) (c : Int) : (filtW m (w ++ [e]) c).length = (filtW m w c).length + (if seesW m c e then 1 else 0) := by
  unfold filtW
  rw [List.filter_append, List.length_append, List.filter_cons]
  split <;> simp_all
theorem filt_wcut {m : Int} {w : List EnT} {c : Int} {e : EnT} (h : w[fstN m w c]? = some e) : (filtW m (wcut m w c) c).length + 1 = (filtW m w c).length := by
  have hl := (List.getElem?_eq_some_iff.1 h).1
  unfold wcut
  rw [if_pos hl]
  have h1 := (fst_found m w c).1 hl
  unfold filtW fstN at *
  rw [filt_cut, List.length_tail]
  have := List.length_pos_iff.2 h1
  omega
theorem fst_sees {m : Int} {w : List EnT} {c : Int} {e : EnT} (h : w[fstN m w c]? = some e) : seesW m c e = true := by
  unfold fstN at h
  have := filt_head (p := seesW m c) w
  rw [h] at this
  have hm := List.mem_of_getElem? this
  exact (List.mem_filter.1 hm).2
theorem filt_wcut_ne {w : List EnT} {c d : Int} (hd : d ≠ c) : (filtW 3 (wcut 3 w c) d).length = (filtW 3 w d).length := by
  unfold wcut
  split
  · unfold filtW fstN
    rw [filt_cut_ne (p := seesW 3 c) (q := seesW 3 d)]
    intro e he
    rw [seesW_not (by decide)] at he ⊢
    unfold atC at he ⊢
    rw [beq_iff_eq] at he
    rw [beq_eq_false_iff_ne]
    omega
  · rfl
theorem cnt_pick (LL : List (List InsT)) {V : VmT} (hL : LOk LL) (k : VOk LL V) (hm : V.m = 2 ∨ V.m = 3) {p q : Nat} (hp : p < 24) (hmay : mayN LL V p = true) :
    (cntQ (pickV LL V p) q : Int) = cntQ V q + (if (stepOf LL V p).k = 2 ∧ (q : Int) = qqS V.m (stepOf LL V p) then 1 else 0) - (if (stepOf LL V p).k = 6 ∧ (q : Int) = qqS V.m (stepOf LL V p) then 1 else 0) := by
  have so := step_ok hL k hp hmay
  have hne1 : V.m ≠ 1 := by omega
  by_cases h4 : p < 4
  · have hmay' := hmay
    unfold mayN at hmay'
    rw [if_pos h4] at hmay'
    obtain ⟨x, hx⟩ := ready_some hmay'
    have hs : stepOf LL V p = doneS V p x := by unfold stepOf; rw [if_pos h4, hx]; rfl
    have hk6 : (stepOf LL V p).k ≠ 6 := by
      rw [hs]
      unfold doneS
      repeat' split
      all_goals exact fun h => by cases h
    have hst : (stepOf LL V p).t = (p : Int) := by
      rw [hs]
      unfold doneS
      repeat' split
      all_goals rfl
    have hb : (pickV LL V p).b = if (stepOf LL V p).k == 2 && V.m != 1 then upf V.b p (V.b p ++ [((stepOf LL V p).l, (stepOf LL V p).w, (V.st.length : Int))]) else V.b := by
      show bA V p (stepOf LL V p) = _
      unfold bA
      rw [if_pos h4]
    have e1 : (V.m != 1) = true := by rw [bne_iff_ne]; exact hne1
    rw [if_neg (show ¬ ((stepOf LL V p).k = 6 ∧ (q : Int) = qqS V.m (stepOf LL V p)) from fun h => hk6 h.1), Int.sub_zero]
    generalize hS : stepOf LL V p = s at *
    have hpm : (pickV LL V p).m = V.m := rfl
    by_cases hk2 : s.k = 2
    · have e2 : (s.k == 2) = true := by rw [hk2]; rfl
      rw [e2, e1, if_pos (show (true && true) = true from rfl)] at hb
      have l0 := so.l0
      have l1 := so.l1
      unfold cntQ qqS
      rw [hpm, hb]
      rcases hm with hm | hm
      · rw [hm, if_neg (show ¬ (2 : Int) = 3 by decide), if_neg (show ¬ (2 : Int) = 3 by decide), if_neg (show ¬ (2 : Int) = 3 by decide)]
        by_cases hq : 4 ≤ q ∧ q < 8
        · rw [if_pos hq, if_pos hq]
          by_cases hqp : q - 4 = p
          · rw [hqp, upf_same, List.length_append, List.length_singleton, if_pos ⟨hk2, by omega⟩]
            omega
          · rw [upf_other _ _ hqp, if_neg (by omega)]
            omega
        · rw [if_neg hq, if_neg hq, if_neg (by omega)]
          omega
      · rw [hm, if_pos rfl, if_pos rfl, if_pos rfl]
        by_cases hq : 8 ≤ q ∧ q < 24
        · rw [if_pos hq, if_pos hq]
          have hcT : cT q = (q - 8) / 4 := by unfold cT; rw [if_neg (by omega)]
          have hcC : cC q = (q - 8) % 4 := by unfold cC; rw [if_neg (by omega)]
          by_cases hqp : cT q = p
          · rw [hqp, upf_same, filt_app, seesW_not (by decide)]
            by_cases hl : s.l = (cC q : Int)
            · have e3 : atC (cC q) (s.l, s.w, (V.st.length : Int)) = true := by unfold atC; rw [beq_iff_eq]; exact hl
              rw [e3, if_pos rfl, if_pos ⟨hk2, by omega⟩]
              omega
            · have e3 : atC (cC q) (s.l, s.w, (V.st.length : Int)) = false := by unfold atC; rw [beq_eq_false_iff_ne]; exact hl
              rw [e3, if_neg (by decide), if_neg (by omega)]
              omega
          · rw [upf_other _ _ hqp, if_neg (by omega)]
            omega
        · rw [if_neg hq, if_neg hq, if_neg (by omega)]
          omega
    · have e2 : (s.k == 2) = false := by rw [beq_eq_false_iff_ne]; exact hk2
      rw [e2, Bool.false_and, if_neg (by decide)] at hb
      rw [if_neg (fun h => hk2 h.1)]
      unfold cntQ
      rw [hpm, hb]
      omega
  · obtain ⟨e, he⟩ := old_some h4 hmay
    have hs : stepOf LL V p = flushS p (cT p) e := by unfold stepOf; rw [if_neg h4, he]; rfl
    have hb : (pickV LL V p).b = upf V.b (cT p) (wcut V.m (V.b (cT p)) (cC p)) := by
      show bA V p (stepOf LL V p) = _
      unfold bA
      rw [if_neg h4]
    have hpm : (pickV LL V p).m = V.m := rfl
    have ht := cT_lt (Nat.not_lt.1 h4) hp
    have hk2 : ¬ (stepOf LL V p).k = 2 := by rw [hs]; show ¬ (6 : Int) = 2; decide
    rw [if_neg (fun h => hk2 h.1), Int.add_zero]
    have hmay2 := hmay
    unfold mayN at hmay2
    rw [if_neg h4] at hmay2
    have hsee := fst_sees he
    have hcut := filt_wcut he
    have hlen := wcut_len he
    rw [hs]
    have hk6 : (flushS p (cT p) e).k = 6 := rfl
    unfold cntQ qqS
    rw [hpm, hb]
    rcases hm with hm | hm
    · rw [hm, if_neg (show ¬ (2 : Int) = 3 by decide), if_neg (show ¬ (2 : Int) = 3 by decide), if_neg (show ¬ (2 : Int) = 3 by decide)]
      rw [hm] at hmay2 hlen
      have h8 : p < 8 := by
        rcases Nat.lt_or_ge p 8 with h | h
        · exact h
        · rw [if_neg (by omega)] at hmay2
          simp at hmay2
      have hcT : cT p = p - 4 := by unfold cT; rw [if_pos h8]
      by_cases hq : 4 ≤ q ∧ q < 8
      · rw [if_pos hq, if_pos hq]
        by_cases hqp : q - 4 = cT p
        · rw [hqp, upf_same, if_pos ⟨hk6, by show (q : Int) = 4 + (cT p : Nat); omega⟩]
          omega
        · rw [upf_other _ _ hqp, if_neg (fun h => hqp (by have : (q : Int) = 4 + (cT p : Nat) := h.2; omega))]
          omega
      · rw [if_neg hq, if_neg hq, if_neg (fun h => hq (by have : (q : Int) = 4 + (cT p : Nat) := h.2; omega))]
        omega
    · rw [hm, if_pos rfl, if_pos rfl, if_pos rfl]
      rw [hm] at hmay2 hcut hsee
      have h8 : ¬ p < 8 := by
        intro h
        rw [if_pos h] at hmay2
        simp at hmay2
      have hcT : cT p = (p - 8) / 4 := by unfold cT; rw [if_neg h8]
      have hcC : cC p = (p - 8) % 4 := by unfold cC; rw [if_neg h8]
      rw [seesW_not (by decide)] at hsee
      have hel : e.1 = (cC p : Int) := by unfold atC at hsee; rwa [beq_iff_eq] at hsee
      have hqq : ∀ z : Nat, ((z : Int) = 8 + 4 * (flushS p (cT p) e).t + (flushS p (cT p) e).l) ↔ z = p := by
        intro z
        show (z : Int) = 8 + 4 * ((cT p : Nat) : Int) + e.1 ↔ _
        omega
      by_cases hq : 8 ≤ q ∧ q < 24
      · rw [if_pos hq, if_pos hq]
        have hcTq : cT q = (q - 8) / 4 := by unfold cT; rw [if_neg (by omega)]
        have hcCq : cC q = (q - 8) % 4 := by unfold cC; rw [if_neg (by omega)]
        by_cases hqp : cT q = cT p
        · rw [hqp, upf_same]
          by_cases hc : q = p
          · subst hc
            rw [if_pos ⟨hk6, (hqq q).2 rfl⟩]
            omega
          · rw [filt_wcut_ne (by omega), if_neg (fun h => hc ((hqq q).1 h.2))]
            omega
        · rw [upf_other _ _ hqp, if_neg (fun h => hqp (by rw [(hqq q).1 h.2]))]
          omega
      · rw [if_neg hq, if_neg hq, if_neg (fun h => hq (by have := (hqq q).1 h.2; omega))]
        omega
end Go.Proofs.YtplihlmejnohnaaGreatDoor

namespace Go.Proofs.YtplihlmejnohnaaGreatDoor
open Go.RowKit

/-- A law's machine: its block, and what stands. -/
structure VmFx (x : World) (LL : List (List InsT)) (N : Nat) (P0 P1 P2 : Value) : Prop where
  lok : LOk LL
  top : x.heap.size ≤ N
  rd : ∀ W, On x W → ProgRd W (.agg #[P0, P1, P2]) LL
structure VmSt (x : World) (LL : List (List InsT)) (N : Nat) (P0 P1 P2 : Value) (W : World) (V : VmT) : Prop where
  vm : VmIn W N P0 P1 P2 V
  ok : VOk LL V
  on : On x W
section
variable {x W W' : World} {LL : List (List InsT)} {N M : Nat} {P0 P1 P2 : Value} {V : VmT}
theorem VmSt.go (h : VmSt x LL N P0 P1 P2 W V) (k : On W W') : VmSt x LL N P0 P1 P2 W' V := ⟨h.vm.on k, h.ok, h.on.trans k⟩
theorem VmIn.lt (h : VmIn W N P0 P1 P2 V) : N < W.heap.size := by
  obtain ⟨_, _, h1, _⟩ := h
  exact h1.lt
/-- Behind something written into a block of another type. -/
theorem VmIn.offT {cs : Array Value} {T : TypeId} (k : VmIn W N P0 P1 P2 V) (h : OffV M W W') (hM : Tb W M cs T) (h1 : T ≠ 80) (h2 : T ≠ 85) (h3 : T ≠ 95) : VmIn W' N P0 P1 P2 V := by
  obtain ⟨B, q, h4, h5⟩ := k
  exact ⟨B, q, h.tk h4 (h4.ne hM (Ne.symm h1)), ⟨fun t ht => by
    obtain ⟨b, h6, h7⟩ := h5.buf t ht
    exact ⟨b, h.tk h6 (h6.ne hM (Ne.symm h2)), h7⟩, Lst.off h h3 hM h5.lst⟩⟩
theorem VmSt.off {cs : Array Value} {T : TypeId} (k : VmSt x LL N P0 P1 P2 W V) (h : OffV M W W') (hM : Tb W M cs T) (h1 : T ≠ 80) (h2 : T ≠ 85) (h3 : T ≠ 95) (hx : x.heap.size ≤ M) : VmSt x LL N P0 P1 P2 W' V :=
  ⟨k.vm.offT h hM h1 h2 h3, k.ok, h.on k.on hx⟩
theorem vs_pick (F : VmFx x LL N P0 P1 P2) (h : VmSt x LL N P0 P1 P2 W V) (i : Int) :
    Calls Tryz.prog 14 #[ptV N, .int .i64 i] W fun e w' => e = .returned (.tuple #[stV (if mayB LL V i then stepOf LL V i.toNat else stZ), .bool (mayB LL V i)]) ∧ VmSt x LL N P0 P1 P2 w' (if mayB LL V i then pickV LL V i.toNat else V) ∧ OffV N W w' := by
  refine (pick_is LL N i P0 P1 P2 V W h.vm (fun W' o => F.rd W' (o.on h.on F.top)) F.lok h.ok).mono ?_
  rintro e w' ⟨he, hv, ho⟩
  refine ⟨he, ⟨hv, ?_, ho.on h.on F.top⟩, ho⟩
  by_cases hm : mayB LL V i = true
  · rw [if_pos hm]
    unfold mayB at hm
    split at hm
    · rename_i hi
      exact h.ok.pick F.lok (by omega) hm
    · cases hm
  · rw [if_neg hm]
    exact h.ok
/-- A pick that may be. -/
theorem vs_pickN (F : VmFx x LL N P0 P1 P2) (h : VmSt x LL N P0 P1 P2 W V) (p : Nat) (hp : p < 24) (hm : mayN LL V p = true) :
    Calls Tryz.prog 14 #[ptV N, .int .i64 p] W fun e w' => e = .returned (.tuple #[stV (stepOf LL V p), .bool true]) ∧ VmSt x LL N P0 P1 P2 w' (pickV LL V p) ∧ OffV N W w' := by
  have hb : mayB LL V (p : Int) = true := by unfold mayB; rw [if_pos (by omega), Int.toNat_natCast]; exact hm
  have h2 := vs_pick F h (p : Int)
  rw [hb, if_pos rfl, if_pos rfl, Int.toNat_natCast] at h2
  exact h2
theorem vs_en (F : VmFx x LL N P0 P1 P2) (h : VmSt x LL N P0 P1 P2 W V) : Calls Tryz.prog 12 #[ptV N] W fun e w' => e = .returned (.int .u64 (enN LL V 24 : Nat)) ∧ On W w' :=
  enabled_is LL N P0 P1 P2 V W h.vm (F.rd W h.on)
theorem vs_done (F : VmFx x LL N P0 P1 P2) (h : VmSt x LL N P0 P1 P2 W V) : Calls Tryz.prog 11 #[ptV N] W fun e w' => e = .returned (.bool (doneB LL V)) ∧ On W w' :=
  vdone_is LL N P0 P1 P2 V W h.vm (F.rd W h.on)
def natC (n : Nat) : List Value := [.int .i64 n]
theorem flat_nat (L : List Nat) : L.flatMap natC = L.map intV := by
  induction L with
  | nil => rfl
  | cons a L ih => rw [List.flatMap_cons, ih]; rfl
theorem vs_list (LL : List (List InsT)) (V : VmT) (W : World) (hd : Dt W) : Calls Tryz.prog 13 #[.int .u64 (enN LL V 24 : Nat)] W fun e w' => ∃ a c, e = .returned (.slice a (mayL LL V 24).length c) ∧ Rd natC 1 w' (.slice a (mayL LL V 24).length c) (mayL LL V 24) ∧ On W w' := by
  have h := list_is (enN LL V 24) (en_lt LL V 24) W hd
  rw [en_list] at h
  refine h.mono ?_
  rintro e w' ⟨a, c, he, ho, k⟩
  refine ⟨a, c, he, Rd.own (fun _ => rfl) (base := W.heap.size) (e := 3) ?_, k⟩
  rw [flat_nat]
  exact ho
end
theorem rem_nat (a m : Nat) (hm : 1 ≤ m) : ∃ r : Nat, r < m ∧ a % m = r ∧ (a : Int).tmod (m : Int) = (r : Int) := by
  refine ⟨a % m, Nat.mod_lt _ (by omega), rfl, ?_⟩
  rw [Int.tmod_eq_emod_of_nonneg (by omega)]
  omega
/-- One slot of a row of numbers, read. -/
theorem rd_cell {w : World} {a : Option Addr} {c n : Nat} {L : List Int} (h : Rd intC 1 w (.slice a L.length c) L) {z : Int} (hz : L[n]? = some z) : ∃ g off, a = some ⟨g, off, none⟩ ∧ w.cell? ⟨g, off + n, none⟩ = some (.int .i64 z) := by
  obtain ⟨g, off, ha, _, hc⟩ := h.at hz
  refine ⟨g, off, ha, ?_⟩
  have := hc 0 _ rfl
  rw [Nat.mul_one] at this
  exact this
theorem rd_celln {w : World} {a : Option Addr} {c n : Nat} {L : List Nat} (h : Rd natC 1 w (.slice a L.length c) L) {z : Nat} (hz : L[n]? = some z) : ∃ g off, a = some ⟨g, off, none⟩ ∧ w.cell? ⟨g, off + n, none⟩ = some (.int .i64 z) := by
  obtain ⟨g, off, ha, _, hc⟩ := h.at hz
  refine ⟨g, off, ha, ?_⟩
  have := hc 0 _ rfl
  rw [Nat.mul_one] at this
  exact this
end Go.Proofs.YtplihlmejnohnaaGreatDoor
