/- Threads end within their instructions. Of no memory. -/
import Derived.Test.YtplihlmejnohnaaGreatDoorStepI
import Derived.Test.YtplihlmejnohnaaGreatDoorJ22CompOk
import Derived.Test.YtplihlmejnohnaaGreatDoorJ17SmallB
import Derived.Test.YtplihlmejnohnaaGreatDoorJ27BufQ
import Derived.Test.YtplihlmejnohnaaGreatDoorJ28LocB
namespace Go.Proofs.YtplihlmejnohnaaGreatDoor

def kOk (L : List InsT) : Prop := ∀ x ∈ L, 1 ≤ x.k ∧ x.k ≤ 6
/-- Normal: no set and no skip stands there. -/
def normP (L : List InsT) (l : LocT) : Prop := ∀ i, L[l.pc.toNat]? = some i → (i.k == 5) = false ∧ (i.k == 6) = false
theorem settleN_facts : ∀ (n : Nat) (L : List InsT) (l : LocT), 0 ≤ l.pc → l.pc ≤ L.length → L.length - l.pc.toNat ≤ n → l.pc ≤ (settleN n L l).pc ∧ (settleN n L l).pc ≤ L.length ∧ normP L (settleN n L l)
  | 0, L, l, h0, h1, h2 => by
    refine ⟨Int.le_refl _, h1, fun i hi => ?_⟩
    have := (List.getElem?_eq_some_iff.1 hi).1
    simp only [settleN] at this
    omega
  | n + 1, L, l, h0, h1, h2 => by
    unfold settleN
    rcases hi : L[l.pc.toNat]? with _ | x
    · refine ⟨Int.le_refl _, h1, fun i hj => ?_⟩
      rw [hi] at hj
      cases hj
    · have hlt : l.pc.toNat < L.length := (List.getElem?_eq_some_iff.1 hi).1
      have hs := skipOf_bd x l (L.length - l.pc - 1) (by omega)
      simp only
      split
      · obtain ⟨a, b, c⟩ := settleN_facts n L (pcTo (withR l x.r (resOf x l)) (l.pc + 1)) (by simp only [pcTo]; omega) (by simp only [pcTo]; omega) (by simp only [pcTo]; omega)
        refine ⟨?_, b, c⟩
        simp only [pcTo] at a ⊢
        omega
      · split
        · obtain ⟨a, b, c⟩ := settleN_facts n L (pcTo l (l.pc + skipOf x l (L.length - l.pc - 1) + 1)) (by simp only [pcTo]; omega) (by simp only [pcTo]; omega) (by simp only [pcTo]; omega)
          refine ⟨?_, b, c⟩
          simp only [pcTo] at a ⊢
          omega
        · rename_i h5 h6
          refine ⟨Int.le_refl _, h1, fun i hj => ?_⟩
          rw [hi] at hj
          obtain rfl := Option.some.inj hj
          exact ⟨by simpa using h5, by simpa using h6⟩
theorem settle_facts (L : List InsT) (l : LocT) (h0 : 0 ≤ l.pc) (h1 : l.pc ≤ L.length) : l.pc ≤ (settleP L l).pc ∧ (settleP L l).pc ≤ L.length ∧ normP L (settleP L l) := settleN_facts _ L l h0 h1 (Nat.le_refl _)
theorem start_facts (L : List InsT) : 0 ≤ (startP L).pc ∧ (startP L).pc ≤ L.length ∧ normP L (startP L) := settle_facts L ⟨0, 0, 0, 0, 0⟩ (Int.le_refl _) (Int.natCast_nonneg _)
theorem step_pc (x : InsT) (l : LocT) (v : Int) : (stepTo x l v).pc = l.pc + 1 := rfl
theorem after_facts {L : List InsT} {l : LocT} {x : InsT} (v : Int) (h : nextP L l = some x) : l.pc + 1 ≤ (afterP L l v).pc ∧ (afterP L l v).pc ≤ L.length ∧ normP L (afterP L l v) := by
  obtain ⟨p0, p1⟩ := next_at h
  unfold afterP
  rw [h]
  simp only
  have := settle_facts L (stepTo x l v) (by rw [step_pc]; omega) (by rw [step_pc]; omega)
  rw [step_pc] at this
  exact this
theorem after_none {L : List InsT} {l : LocT} (v : Int) (h : nextP L l = none) : afterP L l v = l := by
  unfold afterP
  rw [h]
theorem next_kind {L : List InsT} {l : LocT} {x : InsT} (h : nextP L l = some x) : (x.k == 5) = false ∧ (x.k == 6) = false := by
  unfold nextP at h
  split at h
  · split at h
    · split at h
      · rename_i hs
        obtain rfl := Option.some.inj h
        unfold seenB at hs
        simp only [Bool.or_eq_true, beq_iff_eq] at hs
        constructor
        · simp; omega
        · simp; omega
      · cases h
    · cases h
  · cases h
theorem next_end {L : List InsT} {l : LocT} (hk : kOk L) (hn : normP L l) (h0 : 0 ≤ l.pc) (h1 : l.pc ≤ L.length) (h : nextP L l = none) : l.pc = L.length := by
  rcases Decidable.em (l.pc < L.length) with hlt | hge
  · obtain ⟨i, hi⟩ : ∃ i, L[l.pc.toNat]? = some i := ⟨_, List.getElem?_eq_getElem (by omega)⟩
    obtain ⟨n5, n6⟩ := hn i hi
    obtain ⟨k1, k6⟩ := hk i (List.mem_of_getElem? hi)
    have hs : seenB i.k = true := by
      unfold seenB
      simp only [Bool.or_eq_true, beq_iff_eq]
      simp only [beq_eq_false_iff_ne] at n5 n6
      omega
    unfold nextP at h
    rw [if_pos h0, hi] at h
    simp only [hs, if_true] at h
    cases h
  · omega
theorem insOk_kind {x : InsT} (h : insOk x = true) : 1 ≤ x.k ∧ x.k ≤ 6 := by
  unfold insOk at h
  repeat' split at h
  all_goals first
    | (rename_i hk; simp only [beq_iff_eq] at hk; omega)
    | (rename_i hk _; simp only [beq_iff_eq] at hk; omega)
    | cases h
theorem kOk_rpl {LT : List UInt8} {L : List InsT} (h : L.all insOk = true) : kOk (rplRow LT L) := by
  intro y hy
  obtain ⟨x, hx, rfl⟩ := List.mem_map.1 hy
  have hk : (rplIns LT x).k = x.k := by unfold rplIns; split <;> rfl
  rw [hk]
  exact insOk_kind (List.all_eq_true.1 h x hx)
end Go.Proofs.YtplihlmejnohnaaGreatDoor

namespace Go.Proofs.YtplihlmejnohnaaGreatDoor
open Go.RowKit

/-- A step of a machine. -/
structure StT where
  p : Int
  t : Int
  k : Int
  l : Int
  r : Int
  w : Int
  f : Int
def stL (s : StT) : List Int := [s.p, s.t, s.k, s.l, s.r, s.w, s.f]
def stZ : StT := ⟨0, 0, 0, 0, 0, 0, 0⟩
def upf {α : Type} (f : Nat → α) (i : Nat) (v : α) : Nat → α := fun j => if j = i then v else f j
theorem upf_same {α : Type} (f : Nat → α) (i : Nat) (v : α) : upf f i v i = v := if_pos rfl
theorem upf_other {α : Type} (f : Nat → α) {i j : Nat} (v : α) (h : j ≠ i) : upf f i v j = f j := if_neg h
/-- A machine: its model, where its threads are, what waits, memory and who wrote it, its steps (the last one first). -/
structure VmT where
  m : Int
  l : Nat → LocT
  b : Nat → List EnT
  mem : Nat → Int
  wr : Nat → Int
  st : List StT
def nxt (LL : List (List InsT)) (V : VmT) (t : Nat) : Option InsT := nextP (threadP LL t) (V.l t)
def hardB (k : Int) : Bool := k == 3 || k == 4
def readyB (LL : List (List InsT)) (V : VmT) (t : Nat) : Bool := if hardB ((nxt LL V t).getD insZ).k then (V.b t).length == 0 else (nxt LL V t).isSome
def oldW (V : VmT) (t : Nat) (c : Int) : Option EnT := (V.b t)[fstN V.m (V.b t) c]?
def cT (p : Nat) : Nat := if p < 8 then p - 4 else (p - 8) / 4
def cC (p : Nat) : Nat := if p < 8 then 0 else (p - 8) % 4
theorem cT_lt {p : Nat} (h4 : 4 ≤ p) (h : p < 24) : cT p < 4 := by
  unfold cT
  split <;> omega
theorem cC_lt (p : Nat) : cC p < 4 := by
  unfold cC
  split <;> omega
/-- May pick p be next? -/
def mayN (LL : List (List InsT)) (V : VmT) (p : Nat) : Bool :=
  if p < 4 then readyB LL V p else (if p < 8 then V.m == 2 else V.m == 3) && (oldW V (cT p) (cC p)).isSome
def mayB (LL : List (List InsT)) (V : VmT) (i : Int) : Bool := if 0 ≤ i ∧ i < 24 then mayN LL V i.toNat else false
/-- What a load of location c by thread t sees, and who stored it. -/
def seesV (V : VmT) (t : Nat) (c : Int) : Int × Int := match newestL c (V.b t) with | some e => (e.2.1, e.2.2) | none => (V.mem c.toNat, V.wr c.toNat)
def doneS (V : VmT) (t : Nat) (x : InsT) : StT :=
  if x.k == 1 then ⟨t, t, 2, x.l, 0, valOf x.a (V.l t), -1⟩
  else if x.k == 2 then ⟨t, t, 1, x.l, (seesV V t x.l).1, 0, (seesV V t x.l).2⟩
  else if x.k == 4 then (if V.mem x.l.toNat == valOf x.a (V.l t) then ⟨t, t, 4, x.l, V.mem x.l.toNat, valOf x.b (V.l t), V.wr x.l.toNat⟩ else ⟨t, t, 5, x.l, V.mem x.l.toNat, 0, V.wr x.l.toNat⟩)
  else ⟨t, t, 3, 0, 0, 0, -1⟩
def flushS (p t : Nat) (e : EnT) : StT := ⟨p, t, 6, e.1, 0, e.2.1, e.2.2⟩
/-- The step that pick p is. -/
def stepOf (LL : List (List InsT)) (V : VmT) (p : Nat) : StT :=
  if p < 4 then doneS V p ((nxt LL V p).getD insZ) else flushS p (cT p) ((oldW V (cT p) (cC p)).getD enZ)
/-- Does a step come to memory? -/
def memB (m : Int) (s : StT) : Bool := s.k == 6 || (s.k == 4 || (s.k == 2 && m == 1))
def lA (LL : List (List InsT)) (V : VmT) (p : Nat) (s : StT) : Nat → LocT := if p < 4 then upf V.l p (afterP (threadP LL p) (V.l p) s.r) else V.l
def bA (V : VmT) (p : Nat) (s : StT) : Nat → List EnT :=
  if p < 4 then (if s.k == 2 && V.m != 1 then upf V.b p (V.b p ++ [(s.l, s.w, (V.st.length : Int))]) else V.b) else upf V.b (cT p) (wcut V.m (V.b (cT p)) (cC p))
def memA (V : VmT) (s : StT) : Nat → Int := if memB V.m s then upf V.mem s.l.toNat s.w else V.mem
def wrA (V : VmT) (s : StT) : Nat → Int := if memB V.m s then upf V.wr s.l.toNat (if s.k == 6 then s.f else (V.st.length : Int)) else V.wr
/-- Behind pick p. -/
def pickV (LL : List (List InsT)) (V : VmT) (p : Nat) : VmT :=
  ⟨V.m, lA LL V p (stepOf LL V p), bA V p (stepOf LL V p), memA V (stepOf LL V p), wrA V (stepOf LL V p), stepOf LL V p :: V.st⟩
def startV (LL : List (List InsT)) (IN : List Int) (m : Int) : VmT := ⟨m, fun t => startP (threadP LL t), fun _ => [], fun c => IN.getD c 0, fun _ => -1, []⟩
/-- What machines ask of a program. -/
structure LOk (LL : List (List InsT)) : Prop where
  len : LL.length ≤ 4
  num : ∀ L ∈ LL, InsB L
  loc : ∀ L ∈ LL, ∀ x ∈ L, (x.k == 1 || (x.k == 2 || x.k == 4)) = true → 0 ≤ x.l ∧ x.l < 4
  ten : ∀ L ∈ LL, L.length ≤ 10
theorem thr_any {LL : List (List InsT)} {Q : List InsT → Prop} (h0 : Q []) (h : ∀ L ∈ LL, Q L) (t : Nat) : Q (threadP LL t) := by
  unfold threadP
  rw [if_pos (Int.natCast_nonneg t), Int.toNat_natCast, List.getD_eq_getElem?_getD]
  cases hx : LL[t]? with
  | none => exact h0
  | some L => exact h L (List.mem_of_getElem? hx)
theorem thr_none {LL : List (List InsT)} {t : Nat} (h : LL.length ≤ t) : threadP LL t = [] := by
  unfold threadP
  rw [if_pos (Int.natCast_nonneg t), Int.toNat_natCast, List.getD_eq_getElem?_getD, List.getElem?_eq_none h]
  rfl
def ptT (LL : List (List InsT)) (V : VmT) (t : Nat) : Nat := 2 * ((threadP LL t).length - (V.l t).pc.toNat) + (V.b t).length
def potV (LL : List (List InsT)) (V : VmT) : Nat := ptT LL V 0 + ptT LL V 1 + ptT LL V 2 + ptT LL V 3
def sizL (LL : List (List InsT)) : Nat := (threadP LL (0 : Nat)).length + (threadP LL (1 : Nat)).length + (threadP LL (2 : Nat)).length + (threadP LL (3 : Nat)).length
/-- What holds of a machine all the time. -/
structure VOk (LL : List (List InsT)) (V : VmT) : Prop where
  lo : 1 ≤ V.m
  hi : V.m ≤ 3
  pc0 : ∀ t, 0 ≤ (V.l t).pc
  pc1 : ∀ t, (V.l t).pc ≤ (threadP LL (t : Nat)).length
  lb : ∀ t, LB (V.l t)
  few : ∀ t, (V.b t).length ≤ (V.l t).pc.toNat
  one : V.m = 1 → ∀ t, V.b t = []
  ent : ∀ t, ∀ e ∈ V.b t, 0 ≤ e.1 ∧ e.1 < 4 ∧ B64 e.2.1 ∧ 0 ≤ e.2.2 ∧ e.2.2 < (V.st.length : Int)
  mem : ∀ c, B64 (V.mem c)
  wr : ∀ c, -1 ≤ V.wr c ∧ V.wr c < (V.st.length : Int)
  all : V.st.length + potV LL V ≤ 2 * sizL LL
theorem LOk.siz {LL : List (List InsT)} (h : LOk LL) : sizL LL ≤ 40 := by
  have f : ∀ t : Nat, (threadP LL t).length ≤ 10 := fun t => thr_any (Q := fun L => L.length ≤ 10) (Nat.zero_le _) h.ten t
  have := f 0
  have := f 1
  have := f 2
  have := f 3
  unfold sizL
  omega
theorem VOk.n {LL : List (List InsT)} {V : VmT} (h : LOk LL) (k : VOk LL V) : V.st.length ≤ 80 := by
  have := h.siz
  have := k.all
  omega
theorem start_nil : startP [] = ⟨0, 0, 0, 0, 0⟩ := rfl
theorem VOk.new {LL : List (List InsT)} {IN : List Int} {m : Int} (h : LOk LL) (hI : ∀ v ∈ IN, B64 v) (h1 : 1 ≤ m) (h3 : m ≤ 3) : VOk LL (startV LL IN m) := by
  have hf : ∀ t : Nat, 0 ≤ (startP (threadP LL t)).pc ∧ (startP (threadP LL t)).pc ≤ (threadP LL t).length := fun t => ⟨(start_facts _).1, (start_facts _).2.1⟩
  refine ⟨h1, h3, fun t => (hf t).1, fun t => (hf t).2, fun t => lb_start (thr_any (LL := LL) (Q := InsB) (fun _ hy => by cases hy) h.num t), fun t => Nat.zero_le _, fun _ _ => rfl, fun t e he => absurd he List.not_mem_nil, fun c => ?_, fun c => ⟨Int.le_refl _, by show (-1 : Int) < 0; omega⟩, ?_⟩
  · show B64 (IN.getD c 0)
    rw [List.getD_eq_getElem?_getD]
    cases hx : IN[c]? with
    | none => exact bd_zero
    | some v => exact hI v (List.mem_of_getElem? hx)
  · show 0 + potV LL (startV LL IN m) ≤ _
    unfold potV ptT sizL
    show 0 + (2 * (_ - _) + 0 + (2 * (_ - _) + 0) + (2 * (_ - _) + 0) + (2 * (_ - _) + 0)) ≤ _
    omega
theorem wcut_len {m : Int} {w : List EnT} {c : Int} {e : EnT} (h : w[fstN m w c]? = some e) : (wcut m w c).length + 1 = w.length := by
  have hl := (List.getElem?_eq_some_iff.1 h).1
  unfold wcut
  rw [if_pos hl]
  exact cutL_len hl
theorem wcut_mem {m : Int} {w : List EnT} {c : Int} {x : EnT} (h : x ∈ wcut m w c) : x ∈ w := by
  unfold wcut at h
  split at h
  · exact cutL_mem h
  · exact h
theorem newest_mem {c : Int} : ∀ {w : List EnT} {e : EnT}, newestL c w = some e → e ∈ w ∧ e.1 = c
  | [], _, h => by cases h
  | x :: w, e, h => by
    unfold newestL at h
    cases hn : newestL c w with
    | some y =>
      rw [hn] at h
      cases h
      exact ⟨List.mem_cons_of_mem _ (newest_mem hn).1, (newest_mem hn).2⟩
    | none =>
      rw [hn] at h
      dsimp only at h
      split at h
      · rename_i hx
        cases h
        exact ⟨List.mem_cons_self, hx⟩
      · cases h
/-- A thread that is ready has a next instruction. -/
theorem ready_some {LL : List (List InsT)} {V : VmT} {t : Nat} (h : readyB LL V t = true) : ∃ x, nxt LL V t = some x := by
  unfold readyB at h
  cases hn : nxt LL V t with
  | some x => exact ⟨x, rfl⟩
  | none =>
    rw [hn] at h
    cases h
theorem nxt_kind {LL : List (List InsT)} {V : VmT} {t : Nat} {x : InsT} (h : nxt LL V t = some x) : x.k = 1 ∨ x.k = 2 ∨ x.k = 3 ∨ x.k = 4 := by
  unfold nxt nextP at h
  split at h
  · split at h
    · rename_i y hy
      split at h
      · rename_i hs
        cases h
        unfold seenB at hs
        simp only [Bool.or_eq_true, beq_iff_eq] at hs
        omega
      · cases h
    · cases h
  · cases h
section
variable {LL : List (List InsT)} {V : VmT}
theorem VOk.sees (k : VOk LL V) (t : Nat) (c : Int) : B64 (seesV V t c).1 ∧ -1 ≤ (seesV V t c).2 ∧ (seesV V t c).2 < (V.st.length : Int) := by
  unfold seesV
  cases hn : newestL c (V.b t) with
  | some e =>
    obtain ⟨h1, h2, h3, h4, h5⟩ := k.ent t e (newest_mem hn).1
    exact ⟨h3, by show -1 ≤ e.2.2; omega, h5⟩
  | none => exact ⟨k.mem _, k.wr _⟩
/-- What a step of a thread is like. -/
structure SOk (V : VmT) (s : StT) : Prop where
  t0 : 0 ≤ s.t
  t1 : s.t < 4
  l0 : 0 ≤ s.l
  l1 : s.l < 4
  r : B64 s.r
  w : B64 s.w
  f0 : -1 ≤ s.f
  f1 : s.f < (V.st.length : Int)
  f6 : s.k = 6 → 0 ≤ s.f
theorem step_ok (h : LOk LL) (k : VOk LL V) {p : Nat} (hp : p < 24) (hm : mayN LL V p = true) : SOk V (stepOf LL V p) := by
  unfold mayN at hm
  unfold stepOf
  by_cases h4 : p < 4
  · rw [if_pos h4] at hm ⊢
    obtain ⟨x, hx⟩ := ready_some hm
    have hmem : x ∈ threadP LL p := next_mem hx
    have hl := thr_any (LL := LL) (Q := fun L => ∀ x ∈ L, (x.k == 1 || (x.k == 2 || x.k == 4)) = true → 0 ≤ x.l ∧ x.l < 4) (fun _ hy => by cases hy) h.loc p x hmem
    have hb := thr_any (LL := LL) (Q := InsB) (fun _ hy => by cases hy) h.num p x hmem
    have ha := lb_val (k.lb p) hb.1
    have hbb := lb_val (k.lb p) hb.2
    have hs := k.sees p x.l
    rw [hx]
    show SOk V (doneS V p x)
    have n0 : (0 : Int) ≤ (V.st.length : Int) := Int.natCast_nonneg _
    unfold doneS
    split
    · rename_i h1
      obtain ⟨l0, l1⟩ := hl (by rw [h1]; rfl)
      exact ⟨by show (0 : Int) ≤ p; omega, by show (p : Int) < 4; omega, l0, l1, bd_zero, ha, by show (-1 : Int) ≤ -1; omega, by show (-1 : Int) < _; omega, fun h => by cases h⟩
    · split
      · rename_i h1
        obtain ⟨l0, l1⟩ := hl (by rw [h1]; simp)
        exact ⟨by show (0 : Int) ≤ p; omega, by show (p : Int) < 4; omega, l0, l1, hs.1, bd_zero, hs.2.1, hs.2.2, fun h => by cases h⟩
      · split
        · rename_i h1
          obtain ⟨l0, l1⟩ := hl (by rw [h1]; simp)
          split
          · exact ⟨by show (0 : Int) ≤ p; omega, by show (p : Int) < 4; omega, l0, l1, k.mem _, hbb, (k.wr _).1, (k.wr _).2, fun h => by cases h⟩
          · exact ⟨by show (0 : Int) ≤ p; omega, by show (p : Int) < 4; omega, l0, l1, k.mem _, bd_zero, (k.wr _).1, (k.wr _).2, fun h => by cases h⟩
        · exact ⟨by show (0 : Int) ≤ p; omega, by show (p : Int) < 4; omega, Int.le_refl _, by show (0 : Int) < 4; omega, bd_zero, bd_zero, by show (-1 : Int) ≤ -1; omega, by show (-1 : Int) < _; omega, fun h => by cases h⟩
  · rw [if_neg h4] at hm ⊢
    have ht := cT_lt (Nat.not_lt.1 h4) hp
    obtain ⟨e, he⟩ : ∃ e, oldW V (cT p) (cC p) = some e := by
      cases ho : oldW V (cT p) (cC p) with
      | some e => exact ⟨e, rfl⟩
      | none => rw [ho] at hm; simp at hm
    obtain ⟨h1, h2, h3, h5, h6⟩ := k.ent (cT p) e (List.mem_of_getElem? he)
    rw [he]
    exact ⟨by show (0 : Int) ≤ (cT p : Nat); omega, by show ((cT p : Nat) : Int) < 4; omega, h1, h2, bd_zero, h3, by show -1 ≤ e.2.2; omega, h6, fun _ => h5⟩
theorem old_some {p : Nat} (h4 : ¬ p < 4) (hm : mayN LL V p = true) : ∃ e, oldW V (cT p) (cC p) = some e := by
  unfold mayN at hm
  rw [if_neg h4] at hm
  cases ho : oldW V (cT p) (cC p) with
  | some e => exact ⟨e, rfl⟩
  | none => rw [ho] at hm; simp at hm
theorem may_one {p : Nat} (h4 : ¬ p < 4) (hm : mayN LL V p = true) (k : VOk LL V) : V.m ≠ 1 := by
  obtain ⟨e, he⟩ := old_some h4 hm
  intro h1
  unfold oldW at he
  rw [k.one h1] at he
  cases he
theorem pt_sum {p : Nat} {V' : VmT} (hp : p < 4) (hlt : ptT LL V' p + 1 ≤ ptT LL V p) (hne : ∀ t, t ≠ p → ptT LL V' t = ptT LL V t) : potV LL V' + 1 ≤ potV LL V := by
  unfold potV
  have c : p = 0 ∨ p = 1 ∨ p = 2 ∨ p = 3 := by omega
  rcases c with rfl | rfl | rfl | rfl
  · rw [hne 1 (by decide), hne 2 (by decide), hne 3 (by decide)]; omega
  · rw [hne 0 (by decide), hne 2 (by decide), hne 3 (by decide)]; omega
  · rw [hne 0 (by decide), hne 1 (by decide), hne 3 (by decide)]; omega
  · rw [hne 0 (by decide), hne 1 (by decide), hne 2 (by decide)]; omega
theorem VOk.pick (h : LOk LL) (k : VOk LL V) {p : Nat} (hp : p < 24) (hm : mayN LL V p = true) : VOk LL (pickV LL V p) := by
  have so := step_ok h k hp hm
  have hst : (pickV LL V p).st.length = V.st.length + 1 := rfl
  have hmem : ∀ c, B64 (memA V (stepOf LL V p) c) := by
    intro c
    unfold memA
    split
    · unfold upf
      split
      · exact so.w
      · exact k.mem c
    · exact k.mem c
  have hwr : ∀ c, -1 ≤ wrA V (stepOf LL V p) c ∧ wrA V (stepOf LL V p) c < (V.st.length : Int) + 1 := by
    intro c
    have h1 := k.wr c
    have h2 := so.f0
    have h3 := so.f1
    unfold wrA
    split
    · unfold upf
      split
      · split
        · exact ⟨h2, by omega⟩
        · exact ⟨by omega, by omega⟩
      · exact ⟨h1.1, by omega⟩
    · exact ⟨h1.1, by omega⟩
  by_cases h4 : p < 4
  · have hm' := hm
    unfold mayN at hm'
    rw [if_pos h4] at hm'
    obtain ⟨x, hx⟩ := ready_some hm'
    have hlA : (pickV LL V p).l = upf V.l p (afterP (threadP LL p) (V.l p) (stepOf LL V p).r) := by show lA LL V p _ = _; unfold lA; rw [if_pos h4]
    have hbA : ∀ t, (pickV LL V p).b t = V.b t ∨ (t = p ∧ V.m ≠ 1 ∧ (pickV LL V p).b t = V.b t ++ [((stepOf LL V p).l, (stepOf LL V p).w, (V.st.length : Int))]) := by
      intro t
      show bA V p (stepOf LL V p) t = _ ∨ _
      have : (pickV LL V p).b t = bA V p (stepOf LL V p) t := rfl
      rw [this]
      unfold bA
      rw [if_pos h4]
      split
      · rename_i hc
        by_cases htp : t = p
        · subst htp
          rw [upf_same]
          simp only [Bool.and_eq_true, bne_iff_ne, ne_eq] at hc
          exact Or.inr ⟨rfl, hc.2, rfl⟩
        · rw [upf_other _ _ htp]
          exact Or.inl rfl
      · exact Or.inl rfl
    have haf := after_facts (L := threadP LL p) (stepOf LL V p).r hx
    have hpc := k.pc0 p
    refine ⟨k.lo, k.hi, fun t => ?_, fun t => ?_, fun t => ?_, fun t => ?_, fun h1 t => ?_, fun t e he => ?_, hmem, fun c => by rw [hst]; have := hwr c; exact ⟨this.1, by show wrA V (stepOf LL V p) c < _; omega⟩, ?_⟩
    · rw [hlA]
      by_cases htp : t = p
      · subst htp; rw [upf_same]; omega
      · rw [upf_other _ _ htp]; exact k.pc0 t
    · rw [hlA]
      by_cases htp : t = p
      · subst htp; rw [upf_same]; exact haf.2.1
      · rw [upf_other _ _ htp]; exact k.pc1 t
    · rw [hlA]
      by_cases htp : t = p
      · subst htp; rw [upf_same]; exact lb_after (thr_any (LL := LL) (Q := InsB) (fun _ hy => by cases hy) h.num t) (k.lb t) so.r
      · rw [upf_other _ _ htp]; exact k.lb t
    · rw [hlA]
      have hf := k.few t
      rcases hbA t with e | ⟨htp, _, e⟩
      · rw [e]
        by_cases htp : t = p
        · subst htp; rw [upf_same]; omega
        · rw [upf_other _ _ htp]; exact hf
      · rw [e]
        subst htp
        rw [upf_same, List.length_append, List.length_singleton]
        omega
    · rcases hbA t with e | ⟨_, h2, _⟩
      · rw [e]; exact k.one h1 t
      · exact absurd h1 h2
    · rw [hst]
      rcases hbA t with e' | ⟨htp, _, e'⟩
      · rw [e'] at he
        obtain ⟨a1, a2, a3, a4, a5⟩ := k.ent t e he
        exact ⟨a1, a2, a3, a4, by omega⟩
      · rw [e'] at he
        rcases List.mem_append.1 he with he | he
        · obtain ⟨a1, a2, a3, a4, a5⟩ := k.ent t e he
          exact ⟨a1, a2, a3, a4, by omega⟩
        · rw [List.mem_singleton.1 he]
          exact ⟨so.l0, so.l1, so.w, Int.natCast_nonneg _, by show (V.st.length : Int) < _; omega⟩
    · rw [hst]
      have := k.all
      have hpot : potV LL (pickV LL V p) + 1 ≤ potV LL V := by
        refine pt_sum h4 ?_ (fun t htp => ?_)
        · unfold ptT
          rw [hlA, upf_same]
          have := haf.1
          have := haf.2.1
          rcases hbA p with e | ⟨_, _, e⟩
          · rw [e]; omega
          · rw [e, List.length_append, List.length_singleton]; omega
        · unfold ptT
          rw [hlA, upf_other _ _ htp]
          rcases hbA t with e | ⟨htp', _⟩
          · rw [e]
          · exact absurd htp' htp
      omega
  · obtain ⟨e0, he0⟩ := old_some h4 hm
    have ht := cT_lt (Nat.not_lt.1 h4) hp
    have hlA : (pickV LL V p).l = V.l := by show lA LL V p _ = _; unfold lA; rw [if_neg h4]
    have hbA : (pickV LL V p).b = upf V.b (cT p) (wcut V.m (V.b (cT p)) (cC p)) := by show bA V p _ = _; unfold bA; rw [if_neg h4]
    have hlen := wcut_len he0
    refine ⟨k.lo, k.hi, fun t => by rw [hlA]; exact k.pc0 t, fun t => by rw [hlA]; exact k.pc1 t, fun t => by rw [hlA]; exact k.lb t, fun t => ?_, fun h1 _ => absurd (show V.m = 1 from h1) (may_one h4 hm k), fun t e he => ?_, hmem, fun c => by rw [hst]; have := hwr c; exact ⟨this.1, by show wrA V (stepOf LL V p) c < _; omega⟩, ?_⟩
    · rw [hlA, hbA]
      have := k.few t
      by_cases htp : t = cT p
      · subst htp; rw [upf_same]; omega
      · rw [upf_other _ _ htp]; exact this
    · rw [hst]
      have hin : e ∈ V.b t := by
        rw [hbA] at he
        by_cases htp : t = cT p
        · subst htp; rw [upf_same] at he; exact wcut_mem he
        · rw [upf_other _ _ htp] at he; exact he
      obtain ⟨a1, a2, a3, a4, a5⟩ := k.ent t e hin
      exact ⟨a1, a2, a3, a4, by omega⟩
    · rw [hst]
      have := k.all
      have hpot : potV LL (pickV LL V p) + 1 ≤ potV LL V := by
        refine pt_sum ht ?_ (fun t htp => ?_)
        · unfold ptT
          rw [hlA, hbA, upf_same]
          omega
        · unfold ptT
          rw [hlA, hbA, upf_other _ _ htp]
      omega
end
end Go.Proofs.YtplihlmejnohnaaGreatDoor
