/- The letters of a set: math/bits.TrailingZeros32, rising, Locs. -/
import Derived.Test.YtacflahkofmcpaaGreatDoorJ44WlCheckD
import Derived.Test.YtacflahkofmcpaaGreatDoorJ09WlOwnR
import Derived.Test.YtacflahkofmcpaaGreatDoorWlRiseP
namespace Go.Proofs.YtacflahkofmcpaaGreatDoor.Wl
open Go.RowKit

/-- The table lies where TrailingZeros32 looks. -/
structure Db (w : World) : Prop where
  tab : ∀ j, j < 32 → w.cell? ⟨1, j, none⟩ = some (.int .u8 (Lib.deBruijn32tab.getD j 0 : Nat))
  lt : 1 < w.heap.size
theorem Db.on {w w' : World} (h : Db w) (k : On w w') : Db w' := ⟨fun j hj => (k.cell (p := ⟨1, j, none⟩) h.lt).trans (h.tab j hj), Nat.lt_of_lt_of_le h.lt k.size⟩
theorem tz_key (x a : Nat) (hx : x < 67108864) (hx0 : x ≠ 0) (hlow : x &&& (4294967296 - x) = a) :
    bits BinOp.and IntKind.u32 (x : Int) (-(x : Int) % 4294967296) * 125613361 % 4294967296 / 134217728 = ((a * 125613361 % 4294967296 / 134217728 : Nat) : Int) := by
  have e1 : -(x : Int) % 4294967296 = ((4294967296 - x : Nat) : Int) := by omega
  rw [e1, u32_and_nat x _ (by omega) (by omega), hlow]
  omega
set_option maxHeartbeats 1000000 in
theorem tz_core (x k idx : Nat) (w : World) (hx0 : ((x : Int) == 0) = false) (key : bits BinOp.and IntKind.u32 (x : Int) (-(x : Int) % 4294967296) * 125613361 % 4294967296 / 134217728 = (idx : Int))
    (hi : idx < 32) (hk : k < 32) (hcell : w.cell? ⟨1, idx, none⟩ = some (.int .u8 k)) (_ : 1 < w.heap.size) :
    Calls Tryz.prog 148 #[.int .u32 x] w fun e w' => e = .returned (.int .i64 k) ∧ w' = w := by
  go_enter Tryz.func148, Tryz.ntmps148
  go_wp2_with (simp only [key])
  go_ret
  exact ⟨rfl, rfl⟩
theorem tz_is (x : Nat) (hx : x < 67108864) (hx0 : x ≠ 0) (w : World) (hd : Db w) :
    Calls Tryz.prog 148 #[.int .u32 x] w fun e w' => e = .returned (.int .i64 (Lib.ctz 32 x : Nat)) ∧ w' = w := by
  obtain ⟨hlow, hk⟩ := Lib.lowest_bit 32 x hx0 (by omega)
  obtain ⟨hi, htab⟩ := Lib.deBruijn32_at _ hk
  have hcell := hd.tab _ hi
  rw [htab] at hcell
  exact tz_core x _ _ w (by simp; omega) (tz_key x _ hx hx0 hlow) hi hk hcell hd.lt

theorem letter_val {k : Nat} (h : k < 26) : (97 + (k : Int)) = ((UInt8.ofNat (97 + k)).toNat : Int) := by
  have : (UInt8.ofNat (97 + k)).toNat = 97 + k := by rw [UInt8.toNat_ofNat']; omega
  omega
theorem and_less (r : Nat) (h : r < 67108864) (h0 : r ≠ 0) : bits .and .u32 (r : Int) ((r : Int) - 1) = ((r &&& (r - 1) : Nat) : Int) := by
  have := u32_and_nat r (r - 1) (by omega) (by omega)
  rw [← this]
  congr 1
  omega
set_option maxHeartbeats 4000000 in
set_option maxRecDepth 8000 in
theorem rising_is (n : Nat) (hn : n < 67108864) (w : World) (hd : Db w) :
    Calls Tryz.prog 109 #[.int .u32 n] w fun e w' => ∃ a c, e = .returned (.slice a (lettersN n).length c) ∧ w'.ownsRow w.heap.size 5 1 (.slice a (lettersN n).length c) (lettersN n).length ((lettersN n).map byteV) ∧ On w w' := by
  obtain ⟨i0, hi, hz0, hz1, hz2⟩ := info_parts infoByte
  have HD : Hid (Db w) := hd
  have hcl : (lettersN n).length ≤ 26 := by
    rw [letters_bits, List.length_map, ← cnt_bits]
    unfold cntN
    have := List.length_filter_le (fun i => n.testBit i) (List.range 26)
    simpa using this
  have hcn : cntN n = (lettersN n).length := by rw [letters_bits, List.length_map, cnt_bits]
  obtain ⟨LT, hLT⟩ : ∃ LT, LT = lettersN n := ⟨_, rfl⟩
  rw [← hLT] at hcl hcn ⊢
  have hC := fun W => count_is n hn W
  rw [hcn] at hC
  have HL : Hid (LT = [] ++ lettersN n) := hLT
  clear hLT hcn hd
  go_enter Tryz.func109, Tryz.ntmps109
  go_wp2_with fail
  refine (hC _).mono ?_
  rintro e w1 ⟨rfl, k1⟩
  obtain ⟨w2, hmk, hown, hgr⟩ := run_make_own (P := Tryz.prog) w1 w.heap.size 41 5 i0 (.int .u8 0) 1 Tryz.underlying41 hi hz0 hz1 .i64 .i64 LT.length (by rw [hz2]; omega) (by unfold maxLen; omega) k1.size
  have K2 : Hid (On w w2) := k1.grownNone hgr
  clear hgr k1 hC
  go_wp2
  clear hmk
  go_loopg [3, 4] n (fun gg s3 s4 wr => ∃ (r : Nat) (L : List UInt8), gg = r ∧ s4 = .int .u32 r ∧ r < 67108864 ∧ wr.ownsRow w.heap.size 5 1 s3 L.length (L.map byteV) ∧ L.length ≤ 26 ∧ Hid (On w wr) ∧ Hid (LT = L ++ lettersN r))
  case atStart => exact ⟨n, [], rfl, rfl, hn, hown, by decide, K2, HL⟩
  case round =>
    clear HL K2 hown
    obtain ⟨r, L, hg, rfl, hr, hown, hL26, HO, HL⟩ := hrel
    by_cases h0 : r = 0
    · subst h0
      have e : LT = L := by rw [HL.out, letters_bits, bits_zero]; simp
      subst e
      obtain ⟨a, c, rfl⟩ := own_slice hown
      go_wp2
      go_ret
      exact ⟨a, c, rfl, hown, HO.out⟩
    · obtain ⟨hk, hb, hless⟩ := rise_step r h0 hr
      have hT := tz_is r hr h0 wr (HD.out.on HO.out)
      obtain ⟨b, hbe, hv⟩ : ∃ b : UInt8, Hid (b = UInt8.ofNat (97 + Lib.ctz 32 r)) ∧ 97 + (Lib.ctz 32 r : Int) = (b.toNat : Int) := ⟨_, rfl, letter_val hk⟩
      have hb256 : (b.toNat : Int) < 256 := by have := b.toNat_lt; omega
      have hand := and_less r hr h0
      have HL2 : Hid (LT = (L ++ [b]) ++ lettersN (r &&& (r - 1))) := by
        show LT = _
        rw [hbe.out, HL.out, letters_bits, hb, letters_bits]
        simp
      have hr2 : (r &&& (r - 1)) < 67108864 := by omega
      have h26 : (L ++ [b]).length ≤ 26 := by
        have := congrArg List.length HL2.out
        rw [List.length_append] at this
        omega
      have hr0 : ((r : Int) == 0) = false := by simpa using (by omega : ¬ (r : Int) = 0)
      clear HL hb hbe
      generalize Lib.ctz 32 r = k at *
      generalize r &&& (r - 1) = r2 at *
      have hlt : ∀ g, u3.ownBlock = some g → w.heap.size ≤ g := fun g hg => (hown.lt g hg).1
      go_wp2_with fail
      refine hT.mono ?_
      rintro e w3 ⟨rfl, rfl⟩
      go_wp2_with (at_builtin; refine wpList_append_own _ rfl _ _ 41 rfl w.heap.size 5 i0 (.int .u8 0) 1 1 Tryz.underlying41 hi hz0 hz1 hz2 rfl (by decide) _ _ _ rfl (hown.alloc _) ⟨w3.heap.size, 0, none⟩ 1 1 [byteV b] rfl rfl ?c1 ?c2 ?c3 ?c4 ?c5 ?_)
      case c1 =>
        intro j u hu
        rw [new_cell]
        exact hu
      case c2 =>
        intro u hu
        simp only [List.mem_cons, List.not_mem_nil, or_false] at hu
        subst hu
        rfl
      case c3 => unfold maxLen; omega
      case c4 => omega
      case c5 => simp only [World.size_alloc]; have := HO.out.size; omega
      intro v' w4 hown4 hg4 _
      go_wp2
      go_roundg r2
      case measure => omega
      case rel =>
        exact ⟨r2, L ++ [b], rfl, rfl, hr2, by simpa using hown4, h26, (HO.out.alloc _).grown hg4 hlt, HL2⟩
set_option maxHeartbeats 1000000 in
theorem locs_is (t : TestT) (v : Value) (w : World) (hd : Db w) (h : TestRd w v t) :
    Calls Tryz.prog 64 #[v] w fun e w' => ∃ a c, e = .returned (.slice a (lettersN (locsN t)).length c) ∧ w'.ownsRow w.heap.size 5 1 (.slice a (lettersN (locsN t)).length c) (lettersN (locsN t)).length ((lettersN (locsN t)).map byteV) ∧ On w w' := by
  have hL := fun W (k : On w W) => locations_is t v W (h.on k)
  have hR := fun W (k : On w W) => rising_is (locsN t) (locsN_lt t) W (hd.on k)
  obtain ⟨a1, c1, a2, c2, a3, c3, rfl, hnm, r1, r2, r3⟩ := h.ex
  have k0 : ∀ T, On w (w.alloc T) := fun T => (On.refl w).alloc T
  clear h r1 r2 r3 hnm hd
  generalize locsN t = N at *
  generalize t.ini.length = m1 at *
  generalize t.thr.length = m2 at *
  generalize t.cond.any.length = m3 at *
  generalize t.cond.k = kk at *
  generalize t.name = nm at *
  generalize lettersN N = LT at *
  go_enter Tryz.func64, Tryz.ntmps64
  go_wp2_with fail
  refine (hL _ (k0 _)).mono ?_
  rintro e w1 ⟨rfl, k1⟩
  have K1 : Hid (On w w1) := (k0 _).trans k1
  clear k1 k0 hL
  go_wp2_with fail
  refine (hR _ K1.out).mono ?_
  rintro e w2 ⟨a, c, rfl, ho, k2⟩
  go_wp2
  go_ret
  exact ⟨a, c, rfl, own_mono ho K1.out.size, K1.out.trans k2⟩
end Go.Proofs.YtacflahkofmcpaaGreatDoor.Wl
