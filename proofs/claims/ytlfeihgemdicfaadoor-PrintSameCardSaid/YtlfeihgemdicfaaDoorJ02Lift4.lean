/- Which instructions may be: print.okIns. -/
import Derived.Test.YtlfeihgemdicfaaDoorOkLeaf
import Derived.Test.YtlfeihgemdicfaaDoorRows
import Derived.Test.YtlfeihgemdicfaaDoorTie
import Derived.Test.YtlfeihgemdicfaaDoorCards
import Derived.ProofKit
import Derived.LaidMore
import Derived.OpenShut
import Derived.Stop.Joined
import Derived.Stop.LaidErr
import Derived.Lib.LaidTab
import Derived.SevenTiedAt
import Derived.Carry
namespace Go.Proofs.YtlfeihgemdicfaaDoor
open Go.RowKit

/-- The signs' texts lie where num.Sign looks. -/
def signTexts : List ByteArray := [⟨#[]⟩, ⟨#[43]⟩, ⟨#[45]⟩, ⟨#[42]⟩, ⟨#[38]⟩, ⟨#[124]⟩, ⟨#[94]⟩, ⟨#[60, 60]⟩, ⟨#[62, 62]⟩, ⟨#[61, 61]⟩, ⟨#[33, 61]⟩, ⟨#[60]⟩]
structure Lw (w : World) : Prop where
  sgs : w.var? Tryd.prog "jacquard/num.signs" = some (signTexts.map Value.string).toArray
theorem gSgs : Tryd.prog.globalNamed "jacquard/num.signs" = some 0 := by kernel_rfl
theorem lt_of_var {w : World} {g : Nat} {n : String} {cs : Array Value} (hg : Tryd.prog.globalNamed n = some g) (h : w.var? Tryd.prog n = some cs) : g < w.heap.size := by
  unfold World.var? at h
  simp only [hg, Option.bind_some] at h
  rcases Nat.lt_or_ge g w.heap.size with h' | h'
  · exact h'
  · simp [Array.getElem?_eq_none h'] at h
theorem Lw.on {w w' : World} (h : Lw w) (k : On w w') : Lw w' := ⟨var?_below k gSgs (lt_of_var gSgs h.sgs) h.sgs⟩
def sgn (k : Nat) : ByteArray := signTexts.getD k ⟨#[]⟩
theorem cell_sign {w : World} (hw : Lw w) (i : Nat) (h : i < 12) : w.cell? ⟨0, i, none⟩ = some (.string (signTexts.getD i ⟨#[]⟩)) := by
  have h0 := World.var?_cell gSgs hw.sgs i
  rw [h0]
  match i, h with
  | 0, _ | 1, _ | 2, _ | 3, _ | 4, _ | 5, _ | 6, _ | 7, _ | 8, _ | 9, _ | 10, _ | 11, _ => rfl
  | n + 12, h => omega
set_option maxHeartbeats 400000 in
theorem sign_yes (n : Nat) (h1 : 1 ≤ n) (h2 : n ≤ 11) (w : World) (hw : Lw w) :
    Calls Tryd.prog 72 #[.int .i64 n] w fun e w' => e = .returned (.string (sgn n)) ∧ w' = w := by
  have hc := cell_sign hw n (by omega)
  have hl := lt_of_var gSgs hw.sgs
  clear hw
  go_enter Tryd.func72, Tryd.ntmps72
  go_wp2
  go_ret
  exact ⟨rfl, rfl⟩
set_option maxHeartbeats 400000 in
theorem sign_no (n : Int) (h : n < 1 ∨ 11 < n) (w : World) :
    Calls Tryd.prog 72 #[.int .i64 n] w fun e w' => e = .returned (.string ⟨#[]⟩) ∧ w' = w := by
  by_cases h1 : n < 1
  · go_enter Tryd.func72, Tryd.ntmps72
    go_wp2
    go_ret
    exact ⟨rfl, rfl⟩
  · have h2 : 11 < n := by omega
    go_enter Tryd.func72, Tryd.ntmps72
    go_wp2
    go_ret
    exact ⟨rfl, rfl⟩
theorem sgn_ne : ∀ k : Fin 11, ¬ (sgn (k.val + 1)).toList = [] := by decide +kernel
set_option maxHeartbeats 1000000 in
theorem okSecond_is (op : Int) (b : Opd) (w : World) (hw : Lw w) :
    Calls Tryd.prog 66 #[.int .i64 op, .agg #[.int .i64 b.r, .int .i64 b.v]] w fun e w' => e = .returned (.bool (secOk op b)) ∧ On w w' := by
  obtain ⟨r, v⟩ := b
  unfold secOk
  simp only
  have hlw : ∀ o, Lw (w.alloc o) := fun o => hw.on ((On.refl w).alloc o)
  cases h0 : (op == 0) with
  | true =>
    clear hlw hw
    go_enter Tryd.func66, Tryd.ntmps66
    go_wp2
    all_goals (try go_ret)
    all_goals exact ⟨by simp_all, (On.refl w).alloc _⟩
  | false =>
    by_cases hs : 1 ≤ op ∧ op ≤ 11
    · obtain ⟨n, rfl⟩ : ∃ n : Nat, op = n := ⟨op.toNat, by omega⟩
      have hS := fun o => sign_yes n (by omega) (by omega) (w.alloc o) (hlw o)
      have hne : ¬ (sgn n).toList = [] := by have := sgn_ne ⟨n - 1, by omega⟩; simp only [show n - 1 + 1 = n by omega] at this; exact this
      have hO := fun W => okOperand_is ⟨r, v⟩ W
      have hso : signOk (n : Int) = true := by unfold signOk; simp; omega
      rw [hso]
      generalize sgn n = X at hS hne
      clear hlw hw hso
      go_enter Tryd.func66, Tryd.ntmps66
      go_wp2_with (first | (go_at_call 72; refine (hS _).mono ?_; rintro e w1 ⟨rfl, rfl⟩) | (go_at_call 64; refine (hO _).mono ?_; rintro e w2 ⟨rfl, k2⟩))
      all_goals (try go_ret)
      all_goals exact ⟨by simp [hne], ((On.refl w).alloc _).trans k2⟩
    · have hS := fun W => sign_no op (by omega) W
      have hso : signOk op = false := by unfold signOk; simp; omega
      rw [hso]
      clear hlw hw hso
      go_enter Tryd.func66, Tryd.ntmps66
      go_wp2_with (go_at_call 72; refine (hS _).mono ?_; rintro e w1 ⟨rfl, rfl⟩)
      all_goals (try go_ret)
      all_goals exact ⟨by simp, (On.refl w).alloc _⟩

end Go.Proofs.YtlfeihgemdicfaaDoor

namespace Go.Proofs.YtlfeihgemdicfaaDoor
open Go.ChangeShapes Go.WideShapes Go.ChangeAt Go.WideMaps Go.WideElems Go.RowKit

theorem own : ownKnob Tryd.prog.godebug = none := by kernel_rfl

theorem bd {a : Int} (h : (Lit.int .i64 a).wf = true) : -9223372036854775808 ≤ a ∧ a ≤ 9223372036854775807 := by
  have e1 : IntKind.i64.min = -9223372036854775808 := rfl
  have e2 : IntKind.i64.max = 9223372036854775807 := rfl
  simp [Lit.wf, e1, e2] at h
  omega

/-- The rows' list. -/
def laidL : List (String × DataW Unit) := [("jacquard/num.signs", Rows.laid_jacquard_num_signs)]

/-- The door's own heap meets the condition. -/
theorem door_met (os : Os) (args : Array Value) : laidMetH Tryd.prog laidL ((World.doorLaid Tryd.prog 400 os).forCall (fun _ _ => 0) ⟨#[], args, []⟩).memory :=
  laidMetH_of_parts3 (fuel := 8) (laidMet_of_run' 8 (by kernel_rfl) (by kernel_rfl)) (by kernel_rfl) (by kernel_rfl)

/-- An array of strings that reads as these texts holds them, cell for cell. -/
theorem cells_of_texts {H : Type} {enc : TypeId × Value → H} {P : Program} {w : World} {base : Nat} {sp : Nat → Bool} {held : Bool} {fuel : Nat} {t e : TypeId} {n : Nat} {cs : List Value} {zs : List ByteArray} {p : List MemPlace}
    (ht : P.underlying t = some (.array n e)) (he : P.underlying e = some .string) (hce : P.cellsOf e = 1) (hct : P.cellsOf t = n)
    (h : DataW.trod enc P w base sp held fuel t cs = some (.agg (zs.map fun z => .lit (.string z.data.toList)), p)) : cs = zs.map fun z => Value.string z := by
  obtain ⟨xs, m, rfl, hx, hlen, hxl, hel⟩ := DataW.trod_array ht h
  simp only [Prod.mk.injEq, DataW.agg.injEq] at hx
  have hzl : zs.length = n := by
    have := congrArg List.length hx.1
    simp at this
    omega
  rw [hct] at hlen
  apply List.ext_getElem?
  intro i
  by_cases hi : i < n
  · have hf := hel i hi
    rw [hce, Nat.mul_one] at hf
    have hxi : xs[i]? = some xs[i] := List.getElem?_eq_getElem (by omega)
    rw [hxi] at hf
    obtain ⟨s, hc, hs, _⟩ := DataW.trod_string he hf
    have h1 : cs[i]? = some (.string s) := by
      have := congrArg (·[0]?) hc
      simpa [List.getElem?_take, List.getElem?_drop] using this
    have h2 : (xs.map (·.1))[i]? = some (DataW.lit (.string s.data.toList) : DataW H) := by simp [hxi, hs]
    rw [← hx.1] at h2
    simp only [List.getElem?_map, Option.map_eq_some_iff, DataW.lit.injEq, Lit.string.injEq] at h2
    obtain ⟨z', hz', e⟩ := h2
    obtain rfl : z' = s := bytes_inj e
    simp [h1, hz']
  · rw [List.getElem?_eq_none (by omega), List.getElem?_eq_none (by simp; omega)]

theorem tSgs : (Tryd.prog.globals[0]?).map (·.type) = some 106 := by kernel_rfl
theorem cSgs : Tryd.prog.cellsOf 106 = 12 := by kernel_rfl
theorem cStr : Tryd.prog.cellsOf 9 = 1 := by kernel_rfl

theorem of_laid {W : World} (h : laidMetH Tryd.prog laidL W) : Lw W := by
  rw [MakeChecks.laidMetH_plain _ _ _ (by kernel_rfl)] at h
  obtain ⟨ps, ⟨g', t', cs, fuel, p, q, hg', ht', hvar, hd, _, _⟩, _⟩ := h
  obtain rfl := Option.some.inj (gSgs.symm.trans hg')
  obtain rfl := Option.some.inj (tSgs.symm.trans ht')
  refine ⟨?_⟩
  rw [hvar]
  have := cells_of_texts (zs := signTexts) Tryd.underlying106 Tryd.underlying9 cStr cSgs hd
  rw [← this]
end Go.Proofs.YtlfeihgemdicfaaDoor
