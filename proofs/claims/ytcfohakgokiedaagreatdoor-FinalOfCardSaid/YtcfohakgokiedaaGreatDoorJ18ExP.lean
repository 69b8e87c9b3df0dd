/- Events, and what a thread does, in plain Lean. Of no memory. -/
import Derived.Test.YtcfohakgokiedaaGreatDoorJ17StepI
import Derived.Test.YtcfohakgokiedaaGreatDoorJ00FinP
namespace Go.Proofs.YtcfohakgokiedaaGreatDoor
open Go.RowKit

/-- An event. -/
structure EvT where
 t : Int
 i : Int
 k : Int
 l : Int
 r : Int
 w : Int
def evC (e : EvT) : List Value := [.int .i64 e.t, .int .i64 e.i, .int .i64 e.k, .int .i64 e.l, .int .i64 e.r, .int .i64 e.w]
def evV (e : EvT) : Value := .agg #[.int .i64 e.t, .int .i64 e.i, .int .i64 e.k, .int .i64 e.l, .int .i64 e.r, .int .i64 e.w]
def evZ : EvT := ⟨0, 0, 0, 0, 0, 0⟩
def rdsB (k : Int) : Bool := k == 1 || (k == 4 || k == 5)
def wrsB (k : Int) : Bool := k == 2 || k == 4
def fncB (k : Int) : Bool := k == 3 || (k == 4 || k == 5)
def swapP (x : InsT) (l : LocT) (v : Int) : EvT := if v == valOf x.a l then ⟨0, 0, 4, x.l, v, valOf x.b l⟩ else ⟨0, 0, 5, x.l, v, 0⟩
def doneP (x : InsT) (l : LocT) (v : Int) : EvT := if x.k == 2 then ⟨0, 0, 1, x.l, v, 0⟩ else if x.k == 1 then ⟨0, 0, 2, x.l, 0, valOf x.a l⟩ else if x.k == 4 then swapP x l v else ⟨0, 0, 3, 0, 0, 0⟩
def atP (t : Int) (i : Nat) (e : EvT) : EvT := ⟨t, i, e.k, e.l, e.r, e.w⟩
/-- The value that an instruction reads, and what is left to read; none: there is nothing left. -/
def valP (x : InsT) (rs : List Int) : Option (Int × List Int) :=
 if readB x.k then (match rs with | [] => none | v :: r => some (v, r)) else some (0, rs)
def unfN : Nat → List InsT → Int → LocT → Nat → List Int → List EvT × LocT × Bool
 | 0, _, _, l, _, _ => ([], l, false)
 | n + 1, L, t, l, i, rs =>
  match nextP L l with
  | none => ([], l, false)
  | some x =>
   match valP x rs with
   | none => ([], l, true)
   | some (v, r) => let u := unfN n L t (afterP L l v) (i + 1) r; (atP t i (doneP x l v) :: u.1, u.2)
def unfP (L : List InsT) (t : Int) (rs : List Int) : List EvT × LocT × Bool := unfN (L.length + 1) L t (startP L) 0 rs
theorem unf_none {n : Nat} {L : List InsT} {t : Int} {l : LocT} {i : Nat} {rs : List Int} (h : nextP L l = none) : unfN n L t l i rs = ([], l, false) := by
 cases n with
 | zero => rfl
 | succ n => rw [unfN, h]
theorem unf_more {n : Nat} {L : List InsT} {t : Int} {l : LocT} {i : Nat} {rs : List Int} {x : InsT} (h : nextP L l = some x) (hv : valP x rs = none) : unfN (n + 1) L t l i rs = ([], l, true) := by
 rw [unfN, h]
 simp only [hv]
theorem unf_some {n : Nat} {L : List InsT} {t : Int} {l : LocT} {i : Nat} {rs r : List Int} {x : InsT} {v : Int} (h : nextP L l = some x) (hv : valP x rs = some (v, r)) :
  unfN (n + 1) L t l i rs = (atP t i (doneP x l v) :: (unfN n L t (afterP L l v) (i + 1) r).1, (unfN n L t (afterP L l v) (i + 1) r).2) := by
 rw [unfN, h]
 simp only [hv]
/-- A step leads on. -/
theorem settleN_on : ∀ (n : Nat) (L : List InsT) (l : LocT), 0 ≤ l.pc → L.length - l.pc.toNat ≤ n → l.pc ≤ (settleN n L l).pc
 | 0, _, _, _, _ => Int.le_refl _
 | n + 1, L, l, h0, h1 => by
  rw [settleN]
  cases hi : L[l.pc.toNat]? with
  | none => exact Int.le_refl _
  | some x =>
   have hlt := (List.getElem?_eq_some_iff.1 hi).1
   have hs := skipOf_bd x l (L.length - l.pc - 1) (by omega)
   simp only
   split
   ·
    have := settleN_on n L (pcTo (withR l x.r (resOf x l)) (l.pc + 1)) (by simp only [pcTo]; omega) (by simp only [pcTo]; omega)
    simp only [pcTo] at this ⊢
    omega
   ·
    split
    ·
     have := settleN_on n L (pcTo l (l.pc + skipOf x l (L.length - l.pc - 1) + 1)) (by simp only [pcTo]; omega) (by simp only [pcTo]; omega)
     simp only [pcTo] at this ⊢
     omega
    ·
     exact Int.le_refl _
theorem after_on {L : List InsT} {l : LocT} {x : InsT} (v : Int) (h : nextP L l = some x) : l.pc + 1 ≤ (afterP L l v).pc := by
 have h0 := (next_at h).1
 unfold afterP
 rw [h]
 have := settleN_on (L.length - (stepTo x l v).pc.toNat) L (stepTo x l v) (by simp only [stepTo, pcTo]; omega) (Nat.le_refl _)
 exact this
theorem start_on (L : List InsT) : 0 ≤ (startP L).pc := settleN_on _ L ⟨0, 0, 0, 0, 0⟩ (by decide) (Nat.le_refl _)
/-- As many events as instructions that are left. -/
theorem unf_len : ∀ (n : Nat) (L : List InsT) (t : Int) (l : LocT) (i : Nat) (rs : List Int), 0 ≤ l.pc → (unfN n L t l i rs).1.length ≤ L.length - l.pc.toNat
 | 0, _, _, _, _, _, _ => Nat.zero_le _
 | n + 1, L, t, l, i, rs, h0 => by
  cases hx : nextP L l with
  | none => rw [unf_none hx]; exact Nat.zero_le _
  | some x =>
   cases hv : valP x rs with
   | none => rw [unf_more hx hv]; exact Nat.zero_le _
   | some p =>
    obtain ⟨v, r⟩ := p
    rw [unf_some hx hv]
    have h1 := after_on v hx
    have h2 := next_at hx
    have := unf_len n L t (afterP L l v) (i + 1) r (by omega)
    simp only [List.length_cons]
    omega
end Go.Proofs.YtcfohakgokiedaaGreatDoor

namespace Go.Proofs.YtcfohakgokiedaaGreatDoor

/-- An execution: its events, their sources, the orders of writes. -/
structure ExT where
 evs : List EvT
 rf : List Int
 co : List (List Int)
def evCs (a b : EvT) : List Int := [cmpI a.t b.t, cmpI a.i b.i, cmpI a.k b.k, cmpI a.l b.l, cmpI a.r b.r, cmpI a.w b.w]
def evCmp (a b : EvT) : Int := orN (evCs a b)
def exCmp (a b : ExT) : Int := if lexC evCmp a.evs b.evs = 0 then (if lexC cmpI a.rf b.rf = 0 then lexC (lexC cmpI) a.co b.co else lexC cmpI a.rf b.rf) else lexC evCmp a.evs b.evs

theorem ord_ev : Ord3 evCmp := by
 have key : ∀ a b : EvT, evCmp a b = if cmpI a.t b.t = 0 then (if cmpI a.i b.i = 0 then (if cmpI a.k b.k = 0 then (if cmpI a.l b.l = 0 then (if cmpI a.r b.r = 0 then cmpI a.w b.w else cmpI a.r b.r) else cmpI a.l b.l) else cmpI a.k b.k) else cmpI a.i b.i) else cmpI a.t b.t := by
  intro a b
  unfold evCmp evCs
  simp only [orN]
  by_cases e : cmpI a.w b.w = 0 <;> simp [e]
 have P5 := ord_pair (γ := Int × Int) ord_int ord_int Prod.fst Prod.snd (fun x y h k => Prod.ext h k)
 have P4 := ord_pair (γ := Int × (Int × Int)) ord_int P5 Prod.fst Prod.snd (fun x y h k => Prod.ext h k)
 have P3 := ord_pair (γ := Int × (Int × (Int × Int))) ord_int P4 Prod.fst Prod.snd (fun x y h k => Prod.ext h k)
 have P2 := ord_pair (γ := Int × (Int × (Int × (Int × Int)))) ord_int P3 Prod.fst Prod.snd (fun x y h k => Prod.ext h k)
 have P1 := ord_pair (γ := EvT) ord_int P2 (fun e => e.t) (fun e => (e.i, e.k, e.l, e.r, e.w)) (fun x y h k => by
  obtain ⟨a, b, c, d, e, f⟩ := x
  obtain ⟨a', b', c', d', e', f'⟩ := y
  simp only [Prod.mk.injEq] at h k
  obtain ⟨rfl, rfl, rfl, rfl, rfl⟩ := k
  rw [h])
 have : evCmp = (fun x y : EvT => if cmpI x.t y.t = 0 then (if cmpI x.i y.i = 0 then (if cmpI x.k y.k = 0 then (if cmpI x.l y.l = 0 then (if cmpI x.r y.r = 0 then cmpI x.w y.w else cmpI x.r y.r) else cmpI x.l y.l) else cmpI x.k y.k) else cmpI x.i y.i) else cmpI x.t y.t) := by
  funext a b; exact key a b
 rw [this]
 exact P1
theorem ord_ex : Ord3 exCmp := by
 have P2 := ord_pair (γ := List Int × List (List Int)) (ord_lex ord_int) (ord_lex (ord_lex ord_int)) Prod.fst Prod.snd (fun x y h k => Prod.ext h k)
 exact ord_pair (γ := ExT) (ord_lex ord_ev) P2 (fun x => x.evs) (fun x => (x.rf, x.co)) (fun x y h k => by
  obtain ⟨a, b, c⟩ := x
  obtain ⟨a', b', c'⟩ := y
  simp only [Prod.mk.injEq] at h k
  obtain ⟨rfl, rfl⟩ := k
  rw [h])
end Go.Proofs.YtcfohakgokiedaaGreatDoor
