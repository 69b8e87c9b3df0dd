/- Events and executions, held against each other: exec.compareEvents, slices.CompareFunc, exec.compare, Less, Same. -/
import Derived.Test.YtcfohakgokiedaaGreatDoorJ28RdBk
import Derived.Test.YtcfohakgokiedaaGreatDoorJ06RegFin3
import Derived.Deep.DeepCutAuto
import Derived.Test.YtcfohakgokiedaaGreatDoorJ18ExP
namespace Go.Proofs.YtcfohakgokiedaaGreatDoor
open Go.RowKit

theorem eqEv_any (w : World) (x0 x1 x2 x3 x4 x5 y0 y1 y2 y3 y4 y5 : Int) :
  (Op.equalIn 10000 58 (.agg #[.int .i64 x0, .int .i64 x1, .int .i64 x2, .int .i64 x3, .int .i64 x4, .int .i64 x5]) (.agg #[.int .i64 y0, .int .i64 y1, .int .i64 y2, .int .i64 y3, .int .i64 y4, .int .i64 y5])).run Tryz.prog w = .ok (x0 == y0 && (x1 == y1 && (x2 == y2 && (x3 == y3 && (x4 == y4 && x5 == y5))))) w := by
 go_simp
 by_cases h0 : x0 = y0
 ·
  by_cases h1 : x1 = y1
  ·
   by_cases h2 : x2 = y2
   ·
    by_cases h3 : x3 = y3
    ·
     by_cases h4 : x4 = y4
     ·
      by_cases h5 : x5 = y5
      ·
       simp [h0, h1, h2, h3, h4, h5]
      ·
       simp [h0, h1, h2, h3, h4, h5]
     ·
      simp [h0, h1, h2, h3, h4]
    ·
     simp [h0, h1, h2, h3]
   ·
    simp [h0, h1, h2]
  ·
   simp [h0, h1]
 ·
  simp [h0]
def evE2 (a b : EvT) : Bool := a.t == b.t && (a.i == b.i && (a.k == b.k && (a.l == b.l && (a.r == b.r && a.w == b.w))))
theorem evE2_eq {a b : EvT} (h : evE2 a b = true) : a = b := by
 obtain ⟨a0, a1, a2, a3, a4, a5⟩ := a
 obtain ⟨b0, b1, b2, b3, b4, b5⟩ := b
 simp only [evE2, Bool.and_eq_true, beq_iff_eq] at h
 obtain ⟨rfl, rfl, rfl, rfl, rfl, rfl⟩ := h
 rfl
/-- An execution in memory, as it is read. -/
structure ExRd (w : World) (v : Value) (x : ExT) : Prop where
 ex : ∃ a1 c1 a2 c2 a3 c3, v = .agg #[.slice a1 x.evs.length c1, .slice a2 x.rf.length c2, .slice a3 x.co.length c3] ∧
  Rd evC 6 w (.slice a1 x.evs.length c1) x.evs ∧ Rd intC 1 w (.slice a2 x.rf.length c2) x.rf ∧ Rd2 intC 1 w (.slice a3 x.co.length c3) x.co
theorem ExRd.on {w w' : World} {v : Value} {x : ExT} (h : ExRd w v x) (k : On w w') : ExRd w' v x := by
 obtain ⟨a1, c1, a2, c2, a3, c3, e, r1, r2, r3⟩ := h.ex
 exact ⟨a1, c1, a2, c2, a3, c3, e, r1.on k, r2.on k, r3.on k⟩
abbrev eA (x : ExT) (a1 : Option Addr) (c1 : Nat) (a2 : Option Addr) (c2 : Nat) (a3 : Option Addr) (c3 : Nat) : Array Value := #[.slice a1 x.evs.length c1, .slice a2 x.rf.length c2, .slice a3 x.co.length c3]
end Go.Proofs.YtcfohakgokiedaaGreatDoor

namespace Go.Proofs.YtcfohakgokiedaaGreatDoor

/-- Where an execution belongs, looked for by halves. -/
def bsP (L : List ExT) (x : ExT) : Nat → Nat → Nat → Nat
 | 0, lo, _ => lo
 | n + 1, lo, hi => if lo < hi then (if exCmp (L.getD ((lo + hi) / 2) x) x < 0 then bsP L x n ((lo + hi) / 2 + 1) hi else bsP L x n lo ((lo + hi) / 2)) else lo
theorem bs_end (L : List ExT) (x : ExT) (n lo : Nat) : bsP L x n lo lo = lo := by
 cases n with
 | zero => rfl
 | succ n => rw [bsP, if_neg (Nat.lt_irrefl _)]
theorem bs_le (L : List ExT) (x : ExT) : ∀ (n lo hi : Nat), lo ≤ hi → hi ≤ L.length → bsP L x n lo hi ≤ L.length
 | 0, lo, hi, h, k => by unfold bsP; omega
 | n + 1, lo, hi, h, k => by
  unfold bsP
  split
  ·
   split
   ·
    exact bs_le L x n _ _ (by omega) k
   ·
    exact bs_le L x n _ _ (by omega) (by omega)
  ·
   omega
/-- Where x belongs in L. -/
def putAtP (L : List ExT) (x : ExT) : Nat := bsP L x (L.length + 1) 0 L.length
/-- Is it there already? -/
def putHasP (L : List ExT) (x : ExT) : Bool := decide (putAtP L x < L.length) && (exCmp (L.getD (putAtP L x) x) x == 0)
def putP (L : List ExT) (x : ExT) : List ExT := if putHasP L x then L else L.take (putAtP L x) ++ x :: L.drop (putAtP L x)
theorem putAt_le (L : List ExT) (x : ExT) : putAtP L x ≤ L.length := bs_le L x _ _ _ (Nat.zero_le _) (Nat.le_refl _)
theorem put_len (L : List ExT) (x : ExT) : L.length ≤ (putP L x).length ∧ (putP L x).length ≤ L.length + 1 := by
 unfold putP
 have := putAt_le L x
 split
 ·
  omega
 ·
  simp
  omega
/-- Rows that go on with what is left, in any order. -/
def permP : Nat → List Int → List Int → List (List Int)
 | 0, row, _ => [row]
 | n + 1, row, left => (List.range (n + 1)).flatMap fun i => permP n (row ++ [left.getD i 0]) (left.eraseIdx i)
/-- The other writes of a location. -/
def wlB (E : List EvT) (c i : Nat) : Bool := wrsB (E.getD i evZ).k && ((E.getD i evZ).l == (c : Int)) && ((i : Int) != (c : Int))
def wleftP (E : List EvT) (c : Nat) (n : Nat) : List Int := ((List.range n).filter (wlB E c)).map Int.ofNat
/-- An execution with every order of the writes of m more locations. -/
def ordP : Nat → ExT → List ExT
 | 0, x => [x]
 | m + 1, x => (permP (wleftP x.evs x.co.length x.evs.length).length [(x.co.length : Int)] (wleftP x.evs x.co.length x.evs.length)).flatMap fun r => ordP m ⟨x.evs, x.rf, x.co ++ [r]⟩
/-- One by one, as long as there are no more than most. -/
def runP (most : Nat) : List ExT → List ExT → Option (List ExT)
 | L, [] => some L
 | L, c :: cs => if (putP L c).length ≤ most then runP most (putP L c) cs else none
theorem run_app (most : Nat) : ∀ (A L B : List ExT), runP most L (A ++ B) = (runP most L A).bind fun L' => runP most L' B
 | [], _, _ => rfl
 | c :: A, L, B => by
  rw [List.cons_append, runP, runP]
  split
  ·
   exact run_app most A _ B
  ·
   rfl
theorem run_le {most : Nat} : ∀ {A L L' : List ExT}, L.length ≤ most → runP most L A = some L' → L'.length ≤ most
 | [], _, _, h, e => by rw [runP] at e; obtain rfl := Option.some.inj e; exact h
 | c :: A, L, L', h, e => by
  rw [runP] at e
  split at e
  ·
   rename_i h2; exact run_le h2 e
  ·
   cases e
theorem wleft_succ (E : List EvT) (c n : Nat) : wleftP E c (n + 1) = wleftP E c n ++ (if wlB E c n then [(n : Int)] else []) := by
 unfold wleftP
 rw [List.range_succ, List.filter_append, List.map_append]
 congr 1
 by_cases h : wlB E c n = true
 ·
  simp [h]
 ·
  simp [h]
theorem wleft_len (E : List EvT) (c n : Nat) : (wleftP E c n).length ≤ n := by
 unfold wleftP
 rw [List.length_map]
 exact Nat.le_trans (List.length_filter_le _ _) (by simp)
/-- The first i groups. -/
def preL (G : Nat → List ExT) (i : Nat) : List ExT := (List.range i).flatMap G
theorem pre_succ (G : Nat → List ExT) (i : Nat) : preL G (i + 1) = preL G i ++ G i := by
 unfold preL
 rw [List.range_succ, List.flatMap_append]
 simp
theorem run_pre {most : Nat} {L LI : List ExT} {G : Nat → List ExT} {i : Nat} (h : runP most L (preL G i) = some LI) : runP most L (preL G (i + 1)) = runP most LI (G i) := by
 rw [pre_succ, run_app, h]
 rfl
theorem run_none {most : Nat} {L LI : List ExT} {G : Nat → List ExT} {i : Nat} (h : runP most L (preL G i) = some LI) (h2 : runP most LI (G i) = none) : ∀ n, i < n → runP most L (preL G n) = none
 | 0, hn => by omega
 | n + 1, hn => by
  rcases Nat.lt_or_ge i n with hlt | hge
  ·
   rw [pre_succ, run_app, run_none h h2 n hlt]
   rfl
  ·
   obtain rfl : i = n := by omega
   rw [run_pre h, h2]
theorem perm_pre (n : Nat) (row left : List Int) (f : List Int → List ExT) : (permP (n + 1) row left).flatMap f = preL (fun i => (permP n (row ++ [left.getD i 0]) (left.eraseIdx i)).flatMap f) (n + 1) := by
 rw [permP]
 unfold preL
 rw [List.flatMap_assoc]
end Go.Proofs.YtcfohakgokiedaaGreatDoor
