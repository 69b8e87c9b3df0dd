/- The walk of the law ProgSkips. -/
import Derived.Test.YtjjmkacfkjkhgaaDoorSkipsP
import Derived.Test.YtjjmkacfkjkhgaaDoorAwake6
import Derived.Test.YtjjmkacfkjkhgaaDoorEqs
namespace Go.Proofs.YtjjmkacfkjkhgaaDoor
open Go.RowKit

theorem prog_one {w : World} {N n : Nat} {L : List InsT} {a : Option Addr} {c : Nat} (hn : L.length = n) (h : Bk w N #[.slice a n c]) (hr : Rd insC 9 w (.slice a L.length c) L) : ProgRd w (.agg #[.slice none 0 0, .slice none 0 0, .slice (some ⟨N, 0, none⟩) 1 1]) [L] :=
  ⟨none, 0, 0, none, 0, 0, _, 1, rfl, Rd2.one hn h hr⟩
set_option maxHeartbeats 4000000 in
set_option maxRecDepth 8000 in
theorem progSkips_walk (a b n : Int) (w : World) (hw : Lw w ∧ Db w) :
    Calls Tryd.prog 6 #[.int .i64 a, .int .i64 b, .int .i64 n] w fun e w' => e = .returned (.bool true) ∧ On w w' := by
  obtain ⟨lw, hd⟩ := hw
  obtain ⟨i0, hi, hz0, hz1, hz2⟩ := info_parts infoIns
  have hA := fun W (k : On w W) => awake6_is W (lw.on k) (hd.on k)
  obtain ⟨k, hk, ek⟩ := low8 n
  obtain ⟨j, ej, hj⟩ : ∃ j : Nat, (k : Int) % 5 = (j : Int) ∧ j < 5 := ⟨k % 5, by omega, by omega⟩
  have hS := fun v W h => start_is [skRow a b ((j : Int) + 1) 5] 0 v W h
  have e0 : threadP [skRow a b ((j : Int) + 1) 5] 0 = skRow a b ((j : Int) + 1) 5 := rfl
  rw [e0] at hS
  have hl : ∀ m, (skRow a b ((j : Int) + 1) m).length = m + 1 := fun m => by unfold skRow; simp
  have kA : ∀ T, On w (w.alloc T) := fun T => (On.refl w).alloc T
  have ow : (w.alloc (.cells #[.int .i64 6, .int .i64 0, .int .i64 0, .int .i64 (-1), .int .i64 a, .int .i64 0, .int .i64 (-1), .int .i64 b, .int .i64 ((j : Int) + 1)] 37)).ownsRow w.heap.size 37 9 (.slice (some ⟨w.heap.size, 0, none⟩) 1 1) 1 ((skRow a b ((j : Int) + 1) 0).flatMap insC) := own_one w _ _ 9 _ rfl (Nat.le_refl _)
  clear lw hd hk e0
  obtain ⟨want, hwant, hst⟩ : ∃ want : Int, (want = if (a == b) = true then 5 - ((j : Int) + 1) else 5) ∧ startP (skRow a b ((j : Int) + 1) 5) = ⟨6, want, 0, 0, 0⟩ := by
    cases h : (a == b) with
    | true => exact ⟨_, rfl, skips_same a b j hj h⟩
    | false => exact ⟨_, rfl, skips_other a b _ h⟩
  rw [hst] at hS
  have hE : ∀ m, Hid (skRow a b ((j : Int) + 1) m ++ [incI] = skRow a b ((j : Int) + 1) (m + 1)) := fun m => skRow_more a b _ m
  have hw5 : -9223372036854775808 ≤ want ∧ want ≤ 9223372036854775807 := by rw [hwant]; split <;> omega
  clear hst
  unfold locV at hS
  go_enter Tryd.func6, Tryd.ntmps6
  go_wp2
  go_loopg [7, 8] 5 (fun gg s7 s8 wq => ∃ i : Nat, i ≤ 5 ∧ gg = 5 - i ∧ s8 = .int .i64 i ∧ Hid (On w wq) ∧ wq.ownsRow w.heap.size 37 9 s7 (i + 1) ((skRow a b ((j : Int) + 1) i).flatMap insC))
  case atStart => exact ⟨0, by omega, rfl, rfl, kA _, ow⟩
  case round =>
    clear ow kA
    obtain ⟨i, hi5, hg, rfl, HO, hown⟩ := hrel
    have hlt : ∀ g, u7.ownBlock = some g → w.heap.size ≤ g := fun g hg => (hown.lt g hg).1
    rcases Nat.lt_or_ge i 5 with h5 | h5
    · have HJ := hE i
      clear hE hS hA
      go_wp2_with (at_builtin; refine wpList_append_own _ rfl _ _ 33 rfl w.heap.size 37 i0 zIns 9 72 Tryd.underlying33 hi hz0 hz1 hz2 rfl (by decide) _ _ _ rfl (hown.alloc _) ⟨wr.heap.size, 0, none⟩ 1 1 (insC incI) rfl rfl ?c1 ?c2 ?c3 ?c4 ?c5 ?_)
      case c1 => exact news_at wr _ _
      case c2 => exact one_ins incI
      case c3 => unfold maxLen; omega
      case c4 => omega
      case c5 => simp only [World.size_alloc]; have := HO.out.size; omega
      intro v' w4 hown4 hg4 _
      have O4 : Hid (w4.ownsRow w.heap.size 37 9 v' (i + 1 + 1) ((skRow a b ((j : Int) + 1) (i + 1)).flatMap insC)) := by
        show w4.ownsRow _ _ _ _ _ _
        rw [← HJ.out, List.flatMap_append]
        exact hown4
      clear hown4
      go_wp2
      go_roundg (5 - (i + 1))
      case measure => omega
      case rel => exact ⟨i + 1, by omega, rfl, by go_num, (HO.out.alloc _).grown hg4 hlt, O4.out⟩
    · obtain rfl : i = 5 := by omega
      obtain ⟨ar, cr, rfl⟩ := own_slice hown
      have RD : Rd insC 9 wr (.slice ar (skRow a b ((j : Int) + 1) 5).length cr) (skRow a b ((j : Int) + 1) 5) := by
        refine Rd.own (C := insC) (k := 9) (fun _ => rfl) (base := w.heap.size) (e := 37) ?_
        rw [hl]
        exact hown
      have hPR := hS _ _ (prog_one (N := wr.heap.size) (n := 6) (a := ar) (c := cr) (hl 5) (Bk.new wr #[.slice ar 6 cr] 33) (RD.on ((On.refl wr).alloc (.cells #[.slice ar 6 cr] 33))))
      have k0 : On w (wr.alloc (.cells #[.slice ar 6 cr] 33)) := HO.out.alloc _
      clear hown RD hS hE hlt hl
      go_wp2_with fail
      refine hPR.mono ?_
      rintro e w2 ⟨rfl, k2⟩
      have K2 : Hid (On w w2) := k0.trans k2
      have kA2 : ∀ T, On w (w2.alloc T) := fun T => K2.out.alloc T
      clear hPR k2 k0
      have hq := fun W x => eq4_is W x 0 0 0 x 0 0 0
      cases h : (a == b) with
      | true =>
        rw [h] at hwant
        simp only [if_true] at hwant
        subst hwant
        go_wp2_with (go_at_call 14; refine (hA _ (kA2 _)).mono ?_; rintro e w3 ⟨rfl, k3⟩)
        go_ret
        exact ⟨rfl, (kA2 _).trans k3⟩
      | false =>
        rw [h] at hwant
        simp only [Bool.false_eq_true, if_false] at hwant
        subst hwant
        go_wp2_with (go_at_call 14; refine (hA _ (kA2 _)).mono ?_; rintro e w3 ⟨rfl, k3⟩)
        go_ret
        exact ⟨rfl, (kA2 _).trans k3⟩
end Go.Proofs.YtjjmkacfkjkhgaaDoor
