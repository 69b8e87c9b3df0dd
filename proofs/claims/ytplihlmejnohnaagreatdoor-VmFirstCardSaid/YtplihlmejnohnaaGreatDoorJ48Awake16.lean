/- vm.Name of every number. -/
import Derived.Test.YtplihlmejnohnaaGreatDoorJ35VmB
import Derived.Test.YtplihlmejnohnaaGreatDoorNumU
import Derived.Test.YtplihlmejnohnaaGreatDoorJ39BufN
import Derived.Test.YtplihlmejnohnaaGreatDoorJ38VmC
import Derived.Test.YtplihlmejnohnaaGreatDoorVmN
namespace Go.Proofs.YtplihlmejnohnaaGreatDoor
open Go.RowKit

def itB (n : Int) : ByteArray := ⟨(Lib.itoa n).toArray⟩
theorem vtext_is (n : Int) (h0 : 0 ≤ n) (h1 : n < 24) (w : World) (hw : Pw w) : Calls Tryz.prog 42 #[.int .i64 n] w fun e w' => e = .returned (.string (itB n)) ∧ On w w' := by
  have hT := ntext_is n (by omega) (by omega) w hw
  have hcv : IntKind.i64.wrap n = n := by rw [wrap_small]; omega; omega
  unfold itB
  generalize (Lib.itoa n).toArray = t at *
  clear hw h0 h1
  go_enter Tryz.func42, Tryz.ntmps42
  go_wp2_with fail
  refine hT.mono ?_
  rintro _ w1 ⟨rfl, k1⟩
  go_wp2
  go_ret
  exact ⟨rfl, k1⟩
theorem itB_is : itB 0 = ⟨#[48]⟩ ∧ itB 1 = ⟨#[49]⟩ ∧ itB 2 = ⟨#[50]⟩ ∧ itB 3 = ⟨#[51]⟩ := by decide +kernel
def nameN (p : Nat) : ByteArray := match p with
  | 0 => ⟨#[116, 48]⟩
  | 1 => ⟨#[116, 49]⟩
  | 2 => ⟨#[116, 50]⟩
  | 3 => ⟨#[116, 51]⟩
  | 4 => ⟨#[102, 48]⟩
  | 5 => ⟨#[102, 49]⟩
  | 6 => ⟨#[102, 50]⟩
  | 7 => ⟨#[102, 51]⟩
  | 8 => ⟨#[102, 48, 46, 48]⟩
  | 9 => ⟨#[102, 48, 46, 49]⟩
  | 10 => ⟨#[102, 48, 46, 50]⟩
  | 11 => ⟨#[102, 48, 46, 51]⟩
  | 12 => ⟨#[102, 49, 46, 48]⟩
  | 13 => ⟨#[102, 49, 46, 49]⟩
  | 14 => ⟨#[102, 49, 46, 50]⟩
  | 15 => ⟨#[102, 49, 46, 51]⟩
  | 16 => ⟨#[102, 50, 46, 48]⟩
  | 17 => ⟨#[102, 50, 46, 49]⟩
  | 18 => ⟨#[102, 50, 46, 50]⟩
  | 19 => ⟨#[102, 50, 46, 51]⟩
  | 20 => ⟨#[102, 51, 46, 48]⟩
  | 21 => ⟨#[102, 51, 46, 49]⟩
  | 22 => ⟨#[102, 51, 46, 50]⟩
  | 23 => ⟨#[102, 51, 46, 51]⟩
  | _ => ⟨#[]⟩
def nameB (i : Int) : ByteArray := if 0 ≤ i ∧ i < 24 then nameN i.toNat else ⟨#[]⟩
set_option maxHeartbeats 4000000 in
theorem name_lit (p : Nat) (hp : p < 24) (w : World) (hw : Pw w) : Calls Tryz.prog 21 #[.int .i64 p] w fun e w' => e = .returned (.string (nameN p)) ∧ On w w' := by
  obtain ⟨i0, i1, i2, i3⟩ := itB_is
  have t0 := fun W (k : On w W) => vtext_is 0 (by decide) (by decide) W (hw.on k)
  have t1 := fun W (k : On w W) => vtext_is 1 (by decide) (by decide) W (hw.on k)
  have t2 := fun W (k : On w W) => vtext_is 2 (by decide) (by decide) W (hw.on k)
  have t3 := fun W (k : On w W) => vtext_is 3 (by decide) (by decide) W (hw.on k)
  rw [i0] at t0
  rw [i1] at t1
  rw [i2] at t2
  rw [i3] at t3
  clear i0 i1 i2 i3 hw
  have hc : p = 0 ∨ p = 1 ∨ p = 2 ∨ p = 3 ∨ p = 4 ∨ p = 5 ∨ p = 6 ∨ p = 7 ∨ p = 8 ∨ p = 9 ∨ p = 10 ∨ p = 11 ∨ p = 12 ∨ p = 13 ∨ p = 14 ∨ p = 15 ∨ p = 16 ∨ p = 17 ∨ p = 18 ∨ p = 19 ∨ p = 20 ∨ p = 21 ∨ p = 22 ∨ p = 23 := by omega
  rcases hc with rfl | rfl | rfl | rfl | rfl | rfl | rfl | rfl | rfl | rfl | rfl | rfl | rfl | rfl | rfl | rfl | rfl | rfl | rfl | rfl | rfl | rfl | rfl | rfl
  · clear hp
    go_enter Tryz.func21, Tryz.ntmps21
    go_wp2_with fail
    refine (t0 _ (On.refl w)).mono ?_
    rintro _ w1 ⟨rfl, k1⟩
    go_wp2
    go_ret
    exact ⟨rfl, k1⟩
  · clear hp
    go_enter Tryz.func21, Tryz.ntmps21
    go_wp2_with fail
    refine (t1 _ (On.refl w)).mono ?_
    rintro _ w1 ⟨rfl, k1⟩
    go_wp2
    go_ret
    exact ⟨rfl, k1⟩
  · clear hp
    go_enter Tryz.func21, Tryz.ntmps21
    go_wp2_with fail
    refine (t2 _ (On.refl w)).mono ?_
    rintro _ w1 ⟨rfl, k1⟩
    go_wp2
    go_ret
    exact ⟨rfl, k1⟩
  · clear hp
    go_enter Tryz.func21, Tryz.ntmps21
    go_wp2_with fail
    refine (t3 _ (On.refl w)).mono ?_
    rintro _ w1 ⟨rfl, k1⟩
    go_wp2
    go_ret
    exact ⟨rfl, k1⟩
  · have hCell := cell_is 4 (by decide) hp
    clear hp
    go_enter Tryz.func21, Tryz.ntmps21
    go_wp2_with fail
    refine (hCell _).mono ?_
    rintro _ w1 ⟨rfl, hw1⟩
    subst w1
    go_wp2_with fail
    refine (t0 _ (On.refl w)).mono ?_
    rintro _ w2 ⟨rfl, k2⟩
    go_wp2
    go_ret
    exact ⟨rfl, k2⟩
  · have hCell := cell_is 5 (by decide) hp
    clear hp
    go_enter Tryz.func21, Tryz.ntmps21
    go_wp2_with fail
    refine (hCell _).mono ?_
    rintro _ w1 ⟨rfl, hw1⟩
    subst w1
    go_wp2_with fail
    refine (t1 _ (On.refl w)).mono ?_
    rintro _ w2 ⟨rfl, k2⟩
    go_wp2
    go_ret
    exact ⟨rfl, k2⟩
  · have hCell := cell_is 6 (by decide) hp
    clear hp
    go_enter Tryz.func21, Tryz.ntmps21
    go_wp2_with fail
    refine (hCell _).mono ?_
    rintro _ w1 ⟨rfl, hw1⟩
    subst w1
    go_wp2_with fail
    refine (t2 _ (On.refl w)).mono ?_
    rintro _ w2 ⟨rfl, k2⟩
    go_wp2
    go_ret
    exact ⟨rfl, k2⟩
  · have hCell := cell_is 7 (by decide) hp
    clear hp
    go_enter Tryz.func21, Tryz.ntmps21
    go_wp2_with fail
    refine (hCell _).mono ?_
    rintro _ w1 ⟨rfl, hw1⟩
    subst w1
    go_wp2_with fail
    refine (t3 _ (On.refl w)).mono ?_
    rintro _ w2 ⟨rfl, k2⟩
    go_wp2
    go_ret
    exact ⟨rfl, k2⟩
  · have hCell := cell_is 8 (by decide) hp
    clear hp
    go_enter Tryz.func21, Tryz.ntmps21
    go_wp2_with fail
    refine (hCell _).mono ?_
    rintro _ w1 ⟨rfl, hw1⟩
    subst w1
    go_wp2_with fail
    refine (t0 _ (On.refl w)).mono ?_
    rintro _ w2 ⟨rfl, k2⟩
    go_wp2_with fail
    refine (t0 _ k2).mono ?_
    rintro _ w3 ⟨rfl, k3⟩
    go_wp2
    go_ret
    exact ⟨rfl, k2.trans k3⟩
  · have hCell := cell_is 9 (by decide) hp
    clear hp
    go_enter Tryz.func21, Tryz.ntmps21
    go_wp2_with fail
    refine (hCell _).mono ?_
    rintro _ w1 ⟨rfl, hw1⟩
    subst w1
    go_wp2_with fail
    refine (t0 _ (On.refl w)).mono ?_
    rintro _ w2 ⟨rfl, k2⟩
    go_wp2_with fail
    refine (t1 _ k2).mono ?_
    rintro _ w3 ⟨rfl, k3⟩
    go_wp2
    go_ret
    exact ⟨rfl, k2.trans k3⟩
  · have hCell := cell_is 10 (by decide) hp
    clear hp
    go_enter Tryz.func21, Tryz.ntmps21
    go_wp2_with fail
    refine (hCell _).mono ?_
    rintro _ w1 ⟨rfl, hw1⟩
    subst w1
    go_wp2_with fail
    refine (t0 _ (On.refl w)).mono ?_
    rintro _ w2 ⟨rfl, k2⟩
    go_wp2_with fail
    refine (t2 _ k2).mono ?_
    rintro _ w3 ⟨rfl, k3⟩
    go_wp2
    go_ret
    exact ⟨rfl, k2.trans k3⟩
  · have hCell := cell_is 11 (by decide) hp
    clear hp
    go_enter Tryz.func21, Tryz.ntmps21
    go_wp2_with fail
    refine (hCell _).mono ?_
    rintro _ w1 ⟨rfl, hw1⟩
    subst w1
    go_wp2_with fail
    refine (t0 _ (On.refl w)).mono ?_
    rintro _ w2 ⟨rfl, k2⟩
    go_wp2_with fail
    refine (t3 _ k2).mono ?_
    rintro _ w3 ⟨rfl, k3⟩
    go_wp2
    go_ret
    exact ⟨rfl, k2.trans k3⟩
  · have hCell := cell_is 12 (by decide) hp
    clear hp
    go_enter Tryz.func21, Tryz.ntmps21
    go_wp2_with fail
    refine (hCell _).mono ?_
    rintro _ w1 ⟨rfl, hw1⟩
    subst w1
    go_wp2_with fail
    refine (t1 _ (On.refl w)).mono ?_
    rintro _ w2 ⟨rfl, k2⟩
    go_wp2_with fail
    refine (t0 _ k2).mono ?_
    rintro _ w3 ⟨rfl, k3⟩
    go_wp2
    go_ret
    exact ⟨rfl, k2.trans k3⟩
  · have hCell := cell_is 13 (by decide) hp
    clear hp
    go_enter Tryz.func21, Tryz.ntmps21
    go_wp2_with fail
    refine (hCell _).mono ?_
    rintro _ w1 ⟨rfl, hw1⟩
    subst w1
    go_wp2_with fail
    refine (t1 _ (On.refl w)).mono ?_
    rintro _ w2 ⟨rfl, k2⟩
    go_wp2_with fail
    refine (t1 _ k2).mono ?_
    rintro _ w3 ⟨rfl, k3⟩
    go_wp2
    go_ret
    exact ⟨rfl, k2.trans k3⟩
  · have hCell := cell_is 14 (by decide) hp
    clear hp
    go_enter Tryz.func21, Tryz.ntmps21
    go_wp2_with fail
    refine (hCell _).mono ?_
    rintro _ w1 ⟨rfl, hw1⟩
    subst w1
    go_wp2_with fail
    refine (t1 _ (On.refl w)).mono ?_
    rintro _ w2 ⟨rfl, k2⟩
    go_wp2_with fail
    refine (t2 _ k2).mono ?_
    rintro _ w3 ⟨rfl, k3⟩
    go_wp2
    go_ret
    exact ⟨rfl, k2.trans k3⟩
  · have hCell := cell_is 15 (by decide) hp
    clear hp
    go_enter Tryz.func21, Tryz.ntmps21
    go_wp2_with fail
    refine (hCell _).mono ?_
    rintro _ w1 ⟨rfl, hw1⟩
    subst w1
    go_wp2_with fail
    refine (t1 _ (On.refl w)).mono ?_
    rintro _ w2 ⟨rfl, k2⟩
    go_wp2_with fail
    refine (t3 _ k2).mono ?_
    rintro _ w3 ⟨rfl, k3⟩
    go_wp2
    go_ret
    exact ⟨rfl, k2.trans k3⟩
  · have hCell := cell_is 16 (by decide) hp
    clear hp
    go_enter Tryz.func21, Tryz.ntmps21
    go_wp2_with fail
    refine (hCell _).mono ?_
    rintro _ w1 ⟨rfl, hw1⟩
    subst w1
    go_wp2_with fail
    refine (t2 _ (On.refl w)).mono ?_
    rintro _ w2 ⟨rfl, k2⟩
    go_wp2_with fail
    refine (t0 _ k2).mono ?_
    rintro _ w3 ⟨rfl, k3⟩
    go_wp2
    go_ret
    exact ⟨rfl, k2.trans k3⟩
  · have hCell := cell_is 17 (by decide) hp
    clear hp
    go_enter Tryz.func21, Tryz.ntmps21
    go_wp2_with fail
    refine (hCell _).mono ?_
    rintro _ w1 ⟨rfl, hw1⟩
    subst w1
    go_wp2_with fail
    refine (t2 _ (On.refl w)).mono ?_
    rintro _ w2 ⟨rfl, k2⟩
    go_wp2_with fail
    refine (t1 _ k2).mono ?_
    rintro _ w3 ⟨rfl, k3⟩
    go_wp2
    go_ret
    exact ⟨rfl, k2.trans k3⟩
  · have hCell := cell_is 18 (by decide) hp
    clear hp
    go_enter Tryz.func21, Tryz.ntmps21
    go_wp2_with fail
    refine (hCell _).mono ?_
    rintro _ w1 ⟨rfl, hw1⟩
    subst w1
    go_wp2_with fail
    refine (t2 _ (On.refl w)).mono ?_
    rintro _ w2 ⟨rfl, k2⟩
    go_wp2_with fail
    refine (t2 _ k2).mono ?_
    rintro _ w3 ⟨rfl, k3⟩
    go_wp2
    go_ret
    exact ⟨rfl, k2.trans k3⟩
  · have hCell := cell_is 19 (by decide) hp
    clear hp
    go_enter Tryz.func21, Tryz.ntmps21
    go_wp2_with fail
    refine (hCell _).mono ?_
    rintro _ w1 ⟨rfl, hw1⟩
    subst w1
    go_wp2_with fail
    refine (t2 _ (On.refl w)).mono ?_
    rintro _ w2 ⟨rfl, k2⟩
    go_wp2_with fail
    refine (t3 _ k2).mono ?_
    rintro _ w3 ⟨rfl, k3⟩
    go_wp2
    go_ret
    exact ⟨rfl, k2.trans k3⟩
  · have hCell := cell_is 20 (by decide) hp
    clear hp
    go_enter Tryz.func21, Tryz.ntmps21
    go_wp2_with fail
    refine (hCell _).mono ?_
    rintro _ w1 ⟨rfl, hw1⟩
    subst w1
    go_wp2_with fail
    refine (t3 _ (On.refl w)).mono ?_
    rintro _ w2 ⟨rfl, k2⟩
    go_wp2_with fail
    refine (t0 _ k2).mono ?_
    rintro _ w3 ⟨rfl, k3⟩
    go_wp2
    go_ret
    exact ⟨rfl, k2.trans k3⟩
  · have hCell := cell_is 21 (by decide) hp
    clear hp
    go_enter Tryz.func21, Tryz.ntmps21
    go_wp2_with fail
    refine (hCell _).mono ?_
    rintro _ w1 ⟨rfl, hw1⟩
    subst w1
    go_wp2_with fail
    refine (t3 _ (On.refl w)).mono ?_
    rintro _ w2 ⟨rfl, k2⟩
    go_wp2_with fail
    refine (t1 _ k2).mono ?_
    rintro _ w3 ⟨rfl, k3⟩
    go_wp2
    go_ret
    exact ⟨rfl, k2.trans k3⟩
  · have hCell := cell_is 22 (by decide) hp
    clear hp
    go_enter Tryz.func21, Tryz.ntmps21
    go_wp2_with fail
    refine (hCell _).mono ?_
    rintro _ w1 ⟨rfl, hw1⟩
    subst w1
    go_wp2_with fail
    refine (t3 _ (On.refl w)).mono ?_
    rintro _ w2 ⟨rfl, k2⟩
    go_wp2_with fail
    refine (t2 _ k2).mono ?_
    rintro _ w3 ⟨rfl, k3⟩
    go_wp2
    go_ret
    exact ⟨rfl, k2.trans k3⟩
  · have hCell := cell_is 23 (by decide) hp
    clear hp
    go_enter Tryz.func21, Tryz.ntmps21
    go_wp2_with fail
    refine (hCell _).mono ?_
    rintro _ w1 ⟨rfl, hw1⟩
    subst w1
    go_wp2_with fail
    refine (t3 _ (On.refl w)).mono ?_
    rintro _ w2 ⟨rfl, k2⟩
    go_wp2_with fail
    refine (t3 _ k2).mono ?_
    rintro _ w3 ⟨rfl, k3⟩
    go_wp2
    go_ret
    exact ⟨rfl, k2.trans k3⟩
theorem name_is (i : Int) (w : World) (hw : Pw w) : Calls Tryz.prog 21 #[.int .i64 i] w fun e w' => e = .returned (.string (nameB i)) ∧ On w w' := by
  by_cases h0 : i < 0
  · have e : nameB i = ⟨#[]⟩ := by unfold nameB; rw [if_neg (by omega)]
    rw [e]
    have d0 : decide (i < 0) = true := decide_eq_true h0
    clear h0 e hw
    go_enter Tryz.func21, Tryz.ntmps21
    go_wp2
    go_ret
    exact ⟨rfl, On.refl w⟩
  have d0 : decide (i < 0) = false := decide_eq_false h0
  by_cases h24 : 24 ≤ i
  · have e : nameB i = ⟨#[]⟩ := by unfold nameB; rw [if_neg (by omega)]
    rw [e]
    have d1 : decide (24 ≤ i) = true := decide_eq_true h24
    clear h0 h24 e hw
    go_enter Tryz.func21, Tryz.ntmps21
    go_wp2
    go_ret
    exact ⟨rfl, On.refl w⟩
  obtain ⟨p, rfl⟩ : ∃ p : Nat, i = (p : Int) := ⟨i.toNat, by omega⟩
  have em : nameB (p : Int) = nameN p := by unfold nameB; rw [if_pos (by omega), Int.toNat_natCast]
  rw [em]
  exact name_lit p (by omega) w hw
end Go.Proofs.YtplihlmejnohnaaGreatDoor

namespace Go.Proofs.YtplihlmejnohnaaGreatDoor
open Go.RowKit

/-- The table lies where TrailingZeros64 looks. -/
structure Dt (w : World) : Prop where
  tab : ∀ j, j < 64 → w.cell? ⟨0, j, none⟩ = some (.int .u8 (Lib.deBruijn64tab.getD j 0 : Nat))
  lt : 0 < w.heap.size
theorem Dt.on {w w' : World} (h : Dt w) (k : On w w') : Dt w' := ⟨fun j hj => (k.cell (p := ⟨0, j, none⟩) h.lt).trans (h.tab j hj), Nat.lt_of_lt_of_le h.lt k.size⟩
theorem tz_key (x a : Nat) (hx : x < 18446744073709551616) (hx0 : x ≠ 0) (hlow : x &&& (18446744073709551616 - x) = a) :
    bits BinOp.and IntKind.u64 (x : Int) (-(x : Int) % 18446744073709551616) * 285870213051353865 % 18446744073709551616 / 288230376151711744 = ((a * 285870213051353865 % 18446744073709551616 / 288230376151711744 : Nat) : Int) := by
  have e1 : -(x : Int) % 18446744073709551616 = ((18446744073709551616 - x : Nat) : Int) := by omega
  rw [e1, u64_and_nat x _ (by omega) (by omega), hlow]
  omega
set_option maxHeartbeats 1000000 in
theorem tz_core (x k idx : Nat) (w : World) (hx0 : ((x : Int) == 0) = false) (key : bits BinOp.and IntKind.u64 (x : Int) (-(x : Int) % 18446744073709551616) * 285870213051353865 % 18446744073709551616 / 288230376151711744 = (idx : Int))
    (hi : idx < 64) (hk : k < 64) (hcell : w.cell? ⟨0, idx, none⟩ = some (.int .u8 k)) (_ : 0 < w.heap.size) :
    Calls Tryz.prog 64 #[.int .u64 x] w fun e w' => e = .returned (.int .i64 k) ∧ w' = w := by
  go_enter Tryz.func64, Tryz.ntmps64
  go_wp2_with (simp only [IntKind.wrap_u64])
  go_ret
  exact ⟨rfl, rfl⟩
theorem tz_is (x : Nat) (hx : x < 18446744073709551616) (hx0 : x ≠ 0) (w : World) (hd : Dt w) :
    Calls Tryz.prog 64 #[.int .u64 x] w fun e w' => e = .returned (.int .i64 (Lib.ctz 64 x : Nat)) ∧ w' = w := by
  obtain ⟨hlow, hk⟩ := Lib.lowest_bit 64 x hx0 (by omega)
  obtain ⟨hi, htab⟩ := Lib.deBruijn64_at _ hk
  have hcell := hd.tab _ hi
  rw [htab] at hcell
  exact tz_core x _ _ w (by simp; omega) (tz_key x _ hx hx0 hlow) hi hk hcell hd.lt
set_option maxHeartbeats 1000000 in
theorem first_is (s : Nat) (hs : s < 18446744073709551616) (w : World) (hd : Dt w) :
    Calls Tryz.prog 37 #[.int .u64 s] w fun e w' => e = .returned (.int .i64 (firstN s)) ∧ w' = w := by
  by_cases h0 : s = 0
  · subst h0
    have e : firstN 0 = -1 := rfl
    rw [e]
    go_enter Tryz.func37, Tryz.ntmps37
    go_wp2
    go_ret
    exact ⟨rfl, rfl⟩
  · have hT := tz_is s hs h0 w hd
    have e : firstN s = (Lib.ctz 64 s : Nat) := by unfold firstN; rw [if_neg h0]
    rw [e]
    generalize Lib.ctz 64 s = k at *
    have hr0 : ((s : Int) == 0) = false := by simpa using (by omega : ¬ (s : Int) = 0)
    go_enter Tryz.func37, Tryz.ntmps37
    go_wp2_with fail
    refine hT.mono ?_
    rintro _ _ ⟨rfl, rfl⟩
    go_wp2
    go_ret
    exact ⟨rfl, rfl⟩
def intV (n : Nat) : Value := .int .i64 n
theorem infoInt : (Tryz.prog.info? 3).map (fun i => (i.zero, i.size, i.bytes)) = some (some (.int .i64 0), 1, 8) := by kernel_rfl
theorem and_less (r : Nat) (h : r < 18446744073709551616) (h0 : r ≠ 0) : bits .and .u64 (r : Int) ((r : Int) - 1) = ((r &&& (r - 1) : Nat) : Int) := by
  have := u64_and_nat r (r - 1) (by omega) (by omega)
  rw [← this]
  congr 1
  omega
set_option maxHeartbeats 4000000 in
set_option maxRecDepth 8000 in
theorem list_is (n : Nat) (hn : n < 18446744073709551616) (w : World) (hd : Dt w) :
    Calls Tryz.prog 13 #[.int .u64 n] w fun e w' => ∃ a c, e = .returned (.slice a (bits64 n).length c) ∧ w'.ownsRow w.heap.size 3 1 (.slice a (bits64 n).length c) (bits64 n).length ((bits64 n).map intV) ∧ On w w' := by
  obtain ⟨i0, hi, hz0, hz1, hz2⟩ := info_parts infoInt
  have HD : Hid (Dt w) := hd
  have hcl : (bits64 n).length ≤ 64 := cnt_le n
  obtain ⟨LT, hLT⟩ : ∃ LT, LT = bits64 n := ⟨_, rfl⟩
  have hC := fun W => len_is n hn W
  unfold cnt64 at hC
  rw [← hLT] at hcl hC ⊢
  have HL : Hid (LT = [] ++ bits64 n) := hLT
  clear hLT hd
  go_enter Tryz.func13, Tryz.ntmps13
  go_wp2_with fail
  refine (hC _).mono ?_
  rintro e w1 ⟨rfl, rfl⟩
  obtain ⟨w2, hmk, hown, hgr⟩ := run_make_own (P := Tryz.prog) w1 w1.heap.size 22 3 i0 (.int .i64 0) 1 Tryz.underlying22 hi hz0 hz1 .i64 .i64 LT.length (by rw [hz2]; omega) (by unfold maxLen; omega) (Nat.le_refl _)
  have K2 : Hid (On w1 w2) := (On.refl w1).grownNone hgr
  clear hgr hC
  go_wp2
  clear hmk
  go_loopg [0, 3] n (fun gg s0 s3 wr => ∃ (r : Nat) (L : List Nat), gg = r ∧ s0 = .int .u64 r ∧ r < 18446744073709551616 ∧ wr.ownsRow w1.heap.size 3 1 s3 L.length (L.map intV) ∧ L.length ≤ 64 ∧ Hid (On w1 wr) ∧ Hid (LT = L ++ bits64 r))
  case atStart => exact ⟨n, [], rfl, rfl, hn, hown, by decide, K2, HL⟩
  case round =>
    clear HL K2 hown
    obtain ⟨r, L, hg, rfl, hr, hown, hL26, HO, HL⟩ := hrel
    by_cases h0 : r = 0
    · subst h0
      have e : LT = L := by rw [HL.out, b64_zero]; simp
      subst e
      obtain ⟨a, c, rfl⟩ := own_slice hown
      go_wp2
      go_ret
      exact ⟨a, c, rfl, hown, HO.out⟩
    · obtain ⟨hk, hb, hless⟩ := rise64 r h0 hr
      have hT := first_is r hr wr (HD.out.on HO.out)
      have hf : firstN r = (Lib.ctz 64 r : Nat) := by unfold firstN; rw [if_neg h0]
      rw [hf] at hT
      have hand := and_less r hr h0
      have HL2 : Hid (LT = (L ++ [Lib.ctz 64 r]) ++ bits64 (r &&& (r - 1))) := by
        show LT = _
        rw [HL.out, hb]
        simp
      have hr2 : (r &&& (r - 1)) < 18446744073709551616 := by omega
      have h26 : (L ++ [Lib.ctz 64 r]).length ≤ 64 := by
        have := congrArg List.length HL2.out
        rw [List.length_append] at this
        omega
      have hr0 : ((r : Int) == 0) = false := by simpa using (by omega : ¬ (r : Int) = 0)
      clear HL hb hf
      generalize Lib.ctz 64 r = k at *
      generalize r &&& (r - 1) = r2 at *
      have hlt : ∀ g, u3.ownBlock = some g → w1.heap.size ≤ g := fun g hg => (hown.lt g hg).1
      go_wp2_with fail
      refine hT.mono ?_
      rintro e w3 ⟨rfl, rfl⟩
      go_wp2_with (at_builtin; refine wpList_append_own _ rfl _ _ 22 rfl w1.heap.size 3 i0 (.int .i64 0) 1 8 Tryz.underlying22 hi hz0 hz1 hz2 rfl (by decide) _ _ _ rfl (hown.alloc _) ⟨w3.heap.size, 0, none⟩ 1 1 [intV k] rfl rfl ?c1 ?c2 ?c3 ?c4 ?c5 ?_)
      case c1 =>
        intro j u hu
        rw [new_cell]
        exact hu
      case c2 =>
        intro u hu
        simp only [List.mem_cons, List.not_mem_nil, or_false] at hu
        subst hu
        rfl
      case c3 => unfold maxLen; omega
      case c4 => omega
      case c5 => simp only [World.size_alloc]; have := HO.out.size; omega
      intro v' w4 hown4 hg4 _
      go_wp2
      go_roundg r2
      case measure => omega
      case rel =>
        exact ⟨r2, L ++ [k], rfl, rfl, hr2, by simpa using hown4, h26, (HO.out.alloc _).grown hg4 hlt, HL2⟩
end Go.Proofs.YtplihlmejnohnaaGreatDoor

namespace Go.Proofs.YtplihlmejnohnaaGreatDoor
open Go.RowKit

/-- What the walks of layer 16 ask of the variables. -/
structure W16 (w : World) : Prop where
  lw : Lw w
  db : Db w
  dt : Dt w
  pw : Pw w
theorem W16.on {w w' : World} (h : W16 w) (k : On w w') : W16 w' := ⟨h.lw.on k, h.db.on k, h.dt.on k, h.pw.on k⟩
theorem sb_lok : LOk sbL where
  len := by decide
  num := by
    intro L hL y hy
    simp only [sbL, List.mem_cons, List.not_mem_nil, or_false] at hL
    rcases hL with rfl | rfl <;> (simp only [List.mem_cons, List.not_mem_nil, or_false] at hy; rcases hy with rfl | rfl <;> exact ⟨⟨by decide, by decide⟩, ⟨by decide, by decide⟩⟩)
  loc := by
    intro L hL x hx _
    have h := (sb_locs L hL).2 x hx
    simp only [sbL, List.mem_cons, List.not_mem_nil, or_false] at hL
    rcases hL with rfl | rfl <;> (simp only [List.mem_cons, List.not_mem_nil, or_false] at hx; rcases hx with rfl | rfl <;> exact ⟨by decide, by decide⟩)
  ten := fun L hL => (sb_locs L hL).1
def sbV : VmT := startV sbL [0, 0] 2
theorem sb_vok : VOk sbL sbV := VOk.new sb_lok (by intro v hv; simp only [List.mem_cons, List.not_mem_nil, or_false] at hv; rcases hv with rfl | rfl <;> exact bd_zero) (by decide) (by decide)
theorem sb_m0 : mayN sbL sbV 0 = true := by decide +kernel
def sbS : StT := stepOf sbL sbV 0
def sbV1 : VmT := pickV sbL sbV 0
theorem sb_m5 : mayB sbL sbV1 5 = false := by decide +kernel
theorem sb_en : enN sbL sbV1 24 = 19 := by decide +kernel
theorem sb_k : sbS.k = 2 := by decide +kernel
theorem sb_f : sbS.f = -1 := by decide +kernel
theorem nameB13 : nameB 13 = ⟨#[102, 49, 46, 49]⟩ := rfl
set_option maxHeartbeats 4000000 in
set_option maxRecDepth 8000 in
theorem awake16_is (w : World) (lw : Lw w) (hd : Db w) (hP : Pw w) : Calls Tryz.prog 18 #[] w fun e w' => e = .returned (.bool true) ∧ On w w' := by
  have HL : Hid (Lw w) := lw
  have HD : Hid (Db w) := hd
  have HP : Hid (Pw w) := hP
  clear lw hd hP
  go_enter Tryz.func18, Tryz.ntmps18
  go_wp2_with fail
  refine (sb_is w).mono ?_
  rintro _ w1 ⟨pv, rfl, hpv, k1⟩
  have K1 : Hid (On w w1) := k1
  have hN := new_vm [120, 121] [0, 0] sbL pv 2 w1 (HL.out.on k1) (HD.out.on k1) hpv sb_ag (by decide) (by decide)
  clear k1 hpv
  go_wp2_with fail
  refine hN.mono ?_
  rintro _ w2 ⟨N, P0, P1, P2, x, rfl, hV, hO, kx, hx, kx2⟩
  have HO : Hid (ProgOw w1.heap.size x (.agg #[P0, P1, P2]) [120, 121] [0, 0] sbL) := hO
  have KX : Hid (On w x ∧ x.heap.size ≤ N ∧ On x w2) := ⟨K1.out.trans kx, hx, kx2⟩
  have HPR : Hid (∀ W, On x W → ProgRd W (.agg #[P0, P1, P2]) sbL) := fun W k => (HO.out.on k).fl.rd
  have hp := pick_is sbL N 0 P0 P1 P2 sbV w2 hV (fun W o => HPR.out W (o.on KX.out.2.2 KX.out.2.1)) sb_lok sb_vok
  have hm : mayB sbL sbV 0 = true := sb_m0
  rw [hm] at hp
  rw [if_pos rfl, if_pos rfl] at hp
  have hp' : Calls Tryz.prog 14 #[ptV N, .int .i64 0] w2 fun e w' => e = .returned (.tuple #[stV sbS, .bool true]) ∧ VmIn w' N P0 P1 P2 sbV1 ∧ OffV N w2 w' := hp
  have hk := sb_k
  have hf := sb_f
  generalize sbS = s at *
  clear hN hp hm hV hO kx hx kx2
  unfold ptV at hp' ⊢
  go_wp2_with fail
  refine hp'.mono ?_
  rintro _ w3 ⟨rfl, V3, O3⟩
  have K3 : Hid (On x w3) := O3.on KX.out.2.2 KX.out.2.1
  have HV3 : Hid (VmIn w3 N P0 P1 P2 sbV1) := V3
  clear hp' O3 V3
  go_wp2_with (refine wpList_al rfl rfl step_zero ?_)
  intro wa ka ba
  go_wp2_with (refine wpList_sto (cs := (stC s).toArray) rfl rfl rfl rfl ba step_sz rfl (stC_one _) ?_)
  intro w4 b4 o4
  have K4 : Hid (On w3 w4) := o4.on ka (Nat.le_refl _)
  have q := pick_is sbL N 5 P0 P1 P2 sbV1 w4 (HV3.out.on K4.out) (fun W o => HPR.out W (o.on (K3.out.trans K4.out) KX.out.2.1)) sb_lok (sb_vok.pick sb_lok (by decide) sb_m0)
  rw [sb_m5] at q
  rw [if_neg (by decide), if_neg (by decide)] at q
  have NE : Hid (w3.heap.size ≠ N) := by
    obtain ⟨_, _, h, _⟩ := HV3.out
    have := h.lt
    show _ ≠ _
    omega
  unfold ptV at q
  clear ka ba o4
  go_wp2_with fail
  refine q.mono ?_
  rintro _ w5 ⟨rfl, V5, O5⟩
  have b5 := O5.tk b4 NE.out
  have K5 : Hid (On x w5) := O5.on (K3.out.trans K4.out) KX.out.2.1
  have HV5 : Hid (VmIn w5 N P0 P1 P2 sbV1) := V5
  clear q O5 V5 b4
  go_wp2_with (refine wpList_al rfl rfl step_zero ?_)
  intro wb kb bb
  go_wp2_with (refine wpList_sto (cs := (stC stZ).toArray) rfl rfl rfl rfl bb step_sz rfl (stC_one _) ?_)
  intro w6 b6 o6
  have K6 : Hid (On w5 w6) := o6.on kb (Nat.le_refl _)
  have B5 := b5.on K6.out
  have c2 := B5.at (i := 2) (v := .int .i64 2) (by show some (Value.int .i64 s.k) = _; rw [hk])
  have c6 := B5.at (i := 6) (v := .int .i64 (-1)) (by show some (Value.int .i64 s.f) = _; rw [hf])
  have cl := B5.lt
  have hE := enabled_is sbL N P0 P1 P2 sbV1 w6 (HV5.out.on K6.out) (HPR.out _ (K5.out.trans K6.out))
  rw [sb_en] at hE
  have hX := fun W (k : On w6 W) => name_is 13 W (HP.out.on (((KX.out.1.trans K5.out).trans K6.out).trans k))
  rw [nameB13] at hX
  have KE : Hid (On w w6) := (KX.out.1.trans K5.out).trans K6.out
  unfold ptV at hE
  clear kb bb o6 b6 b5 hk hf B5
  go_wp2_with fail
  refine hE.mono ?_
  rintro _ w7 ⟨rfl, k7⟩
  go_wp2_with fail
  refine (hX _ k7).mono ?_
  rintro _ w8 ⟨rfl, k8⟩
  go_wp2
  go_ret
  exact ⟨rfl, (KE.out.trans k7).trans k8⟩
end Go.Proofs.YtplihlmejnohnaaGreatDoor
