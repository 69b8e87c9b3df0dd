/- print.number for every number: its numeral. -/
import Derived.Test.YtlfeihgemdicfaaDoorJ03Puts
import Derived.Laws.IdiomStrings
import Derived.Lib.ItoaNum
namespace Go.Proofs.YtlfeihgemdicfaaDoor
open Go.RowKit

def byteW (b : UInt8) : Value := .int .u8 b.toNat
/-- Some digits stand behind a place. -/
structure Dg (w : World) (N at' : Nat) (D : List UInt8) : Prop where
  ex : ∃ cs : List Value, Bk w N cs.toArray ∧ cs.length = 20 ∧ cs.drop at' = D.map byteW
theorem Dg.put {w : World} {N at' : Nat} {D : List UInt8} (h : Dg w N (at' + 1) D) (b : UInt8) (ha : at' < 20) : Dg (w.setCell ⟨N, at', none⟩ (byteW b)) N at' (b :: D) := by
  obtain ⟨cs, hb, hl, hd⟩ := h.ex
  refine ⟨cs.set at' (byteW b), hb.put at' _, by simp [hl], ?_⟩
  have e : (cs.set at' (byteW b)).drop at' = byteW b :: cs.drop (at' + 1) := by
    rw [List.drop_eq_getElem_cons (by simp [hl]; exact ha)]
    simp [List.drop_set_of_lt]
  rw [e, hd]
  rfl
theorem Dg.at {w : World} {N at' : Nat} {D : List UInt8} (h : Dg w N at' D) : ∀ j (hj : j < D.length), w.cell? ((⟨N, at', none⟩ : Addr).add j) = some (.int .u8 (D[j].toNat : Int)) := by
  obtain ⟨cs, hb, hl, hd⟩ := h.ex
  intro j hj
  rw [Addr.add_lit]
  refine hb.at ?_
  rw [List.getElem?_toArray, ← List.getElem?_drop, hd, List.getElem?_map, List.getElem?_eq_getElem hj]
  rfl
theorem Dg.lt {w : World} {N at' : Nat} {D : List UInt8} (h : Dg w N at' D) : N < w.heap.size := by obtain ⟨cs, hb, _⟩ := h.ex; exact hb.lt
theorem Dg.cell {w : World} {N at' : Nat} {D : List UInt8} (h : Dg w N at' D) {i : Nat} (hi : i < 20) : (∃ u, w.cell? ⟨N, i, none⟩ = some u) ∧ w.frozen? ⟨N, i, none⟩ = false := by
  obtain ⟨cs, hb, hl, _⟩ := h.ex
  exact ⟨⟨_, hb.at (List.getElem?_toArray .. ▸ List.getElem?_eq_getElem (by omega))⟩, hb.fr i⟩
theorem dec_small {r : Nat} (h : r / 10 = 0) : Lib.decDigits r = [UInt8.ofNat (48 + r % 10)] := by
  have h10 : r < 10 := by omega
  rw [Lib.decDigits, dif_pos h10, Nat.mod_eq_of_lt h10]
theorem dec_big {r : Nat} (h : 0 < r / 10) : Lib.decDigits r = Lib.decDigits (r / 10) ++ [UInt8.ofNat (48 + r % 10)] := by
  rw [Lib.decDigits, dif_neg (by omega)]
theorem dig_val (r : Nat) : ((UInt8.ofNat (48 + r % 10)).toNat : Int) = 48 + (r : Int) % 10 := by
  rw [UInt8.toNat_ofNat']
  omega
theorem new_dg (w : World) (T : TypeId) : Dg (w.alloc (.cells #[.int .u8 0, .int .u8 0, .int .u8 0, .int .u8 0, .int .u8 0, .int .u8 0, .int .u8 0, .int .u8 0, .int .u8 0, .int .u8 0, .int .u8 0, .int .u8 0, .int .u8 0, .int .u8 0, .int .u8 0, .int .u8 0, .int .u8 0, .int .u8 0, .int .u8 0, .int .u8 0] T)) w.heap.size 20 [] :=
  ⟨List.replicate 20 (.int .u8 0), Bk.new w _ _, by simp, by simp⟩
theorem alen : Tryd.prog.arrayLen 105 = 20 := by kernel_rfl
theorem aelem : Tryd.prog.elem 105 = 5 := by kernel_rfl
theorem aund : Tryd.prog.underlying 105 = some (.array (Tryd.prog.arrayLen 105) (Tryd.prog.elem 105)) := by kernel_rfl
theorem asize (w : World) : (Go.sizeOf 5).run Tryd.prog w = .ok 1 w := by kernel_rfl
theorem slice_tail (w : World) (N at' : Nat) (h : at' < 20) : (Instr.sliceAt 105 (.pointer (some ⟨N, 0, none⟩)) (some (.int .i64 (at' : Int))) none none).run Tryd.prog w = .ok (.slice (some ⟨N, at', none⟩) (20 - at') (20 - at')) w := by
  rw [run_sliceAt_array_l w 105 ⟨N, 0, none⟩ aund .i64 (at' : Int) (by omega) (by rw [alen]; omega), aelem, asize, alen]
  simp only [Result.andThen, slicedAt, Int.toNat_natCast, Nat.mul_one]
  rw [if_neg (by omega), Addr.add_lit, Nat.zero_add]
/-- Where the numeral's loop stands. -/
structure Nl (w : World) (u r at' : Nat) (D : List UInt8) (more : Bool) (wr : World) : Prop where
  dg : Dg wr w.heap.size at' D
  on : On w wr
  len : at' + D.length = 20
  yes : more = true → Lib.decDigits u = Lib.decDigits r ++ D ∧ r < 10 ^ (19 - D.length) ∧ D.length ≤ 18
  no : more = false → Lib.decDigits u = D ∧ D.length ≤ 19 ∧ 1 ≤ D.length
theorem Nl.step {w wr : World} {u r at' : Nat} {D : List UInt8} (h : Nl w u r (at' + 1) D true wr) : Nl w u (r / 10) at' (UInt8.ofNat (48 + r % 10) :: D) (decide (0 < r / 10)) (wr.setCell ⟨w.heap.size, at', none⟩ (byteW (UInt8.ofNat (48 + r % 10)))) := by
  have hl := h.len
  obtain ⟨y1, y2, y3⟩ := h.yes rfl
  refine ⟨h.dg.put _ (by omega), h.on.setNew (Nat.le_refl _) _, by simp; omega, fun hm => ?_, fun hm => ?_⟩
  · have hm' : 0 < r / 10 := of_decide_eq_true hm
    have e : 19 - D.length = (19 - (D.length + 1)) + 1 := by omega
    rw [e, Nat.pow_succ] at y2
    have hlt : r / 10 < 10 ^ (19 - (D.length + 1)) := by omega
    refine ⟨by rw [y1, dec_big hm']; simp, by simpa using hlt, ?_⟩
    simp only [List.length_cons]
    rcases Nat.lt_or_ge D.length 18 with h' | h'
    · omega
    · have : D.length = 18 := by omega
      rw [this] at hlt
      omega
  · have hm' : r / 10 = 0 := by have := of_decide_eq_false hm; omega
    exact ⟨by rw [y1, dec_small hm']; rfl, by simp; omega, by simp⟩
set_option maxHeartbeats 4000000 in
set_option maxRecDepth 8000 in
theorem number_is (n : Int) (h0 : -9223372036854775808 ≤ n) (h1 : n ≤ 9223372036854775807) (w : World) :
    Calls Tryd.prog 71 #[.int .i64 n] w fun e w' => e = .returned (.string ⟨(Lib.itoa n).toArray⟩) ∧ On w w' := by
  obtain ⟨u, hu, hub⟩ : ∃ u : Nat, u = n.natAbs ∧ u ≤ 9223372036854775808 := ⟨_, rfl, by omega⟩
  obtain ⟨S, hS⟩ : ∃ S, S = Lib.itoa n := ⟨_, rfl⟩
  rw [← hS]
  have hd0 := new_dg w 105
  have hN0 : Nl w u u 20 [] true _ := ⟨hd0, (On.refl w).alloc _, rfl, fun _ => ⟨by simp, by simp; omega, by simp⟩, fun h => by cases h⟩
  clear hd0
  by_cases hneg : n < 0
  · have HS : Hid (S = 45 :: Lib.decDigits u) := by
      show S = _
      rw [hS, Lib.itoa, if_pos hneg, hu]
    have q1 : IntKind.u64.wrap n = ((18446744073709551616 - u : Nat) : Int) := by rw [IntKind.wrap_u64]; omega
    have q2 : IntKind.u64.wrap (-((18446744073709551616 - u : Nat) : Int)) = (u : Int) := by rw [IntKind.wrap_u64]; omega
    generalize 18446744073709551616 - u = m at q1 q2
    clear hS hu
    go_enter Tryd.func71, Tryd.ntmps71
    go_wp2
    go_loopg [3, 5, 6] (u + 1) (fun gg s3 s5 s6 wr => ∃ (r at' : Nat) (D : List UInt8) (more : Bool), gg = (if more then r + 1 else 0) ∧ s3 = .int .u64 (r : Int) ∧ s5 = .int .i64 (at' : Int) ∧ s6 = .bool more ∧ r ≤ 9223372036854775808 ∧ Nl w u r at' D more wr)
    case atStart => exact ⟨u, 20, [], true, rfl, rfl, rfl, rfl, hub, hN0⟩
    case round =>
      clear hN0
      obtain ⟨r, at', D, more, hg, rfl, rfl, rfl, hr, hN⟩ := hrel
      cases more with
      | true =>
        have hl := hN.len
        obtain ⟨y1, y2, y3⟩ := hN.yes rfl
        obtain ⟨b, rfl⟩ : ∃ b, at' = b + 1 := ⟨at' - 1, by omega⟩
        have hst := hN.step
        obtain ⟨⟨u0, c0⟩, f0⟩ := hN.dg.cell (i := b) (by omega)
        obtain ⟨d, hdd, dv, d256⟩ : ∃ d : UInt8, d = UInt8.ofNat (48 + r % 10) ∧ 48 + (r : Int) % 10 = (d.toNat : Int) ∧ (d.toNat : Int) < 256 := ⟨_, rfl, (dig_val r).symm, by have := (UInt8.ofNat (48 + r % 10)).toNat_lt; omega⟩
        rw [← hdd] at hst
        have l0 := hN.dg.lt
        have hb20 : b < 20 := by omega
        have HST : Hid _ := hst
        have hrr : (r : Int) / 10 = ((r / 10 : Nat) : Int) := by omega
        clear hN y1 y2 y3 hst hdd
        obtain ⟨r2, hr2⟩ : ∃ r2, r2 = r / 10 := ⟨_, rfl⟩
        rw [← hr2] at HST hrr
        have HR2 : Hid (r2 = r / 10) := hr2
        clear hr2
        go_wp2
        go_roundg (if decide (0 < r2) then r2 + 1 else 0)
        case measure => have := HR2.out; simp only [if_true] at hg; split <;> (rename_i h; simp at h; omega)
        case rel => exact ⟨r2, b, d :: D, decide (0 < r2), rfl, rfl, by go_num, by simp, by have := HR2.out; omega, HST.out⟩
      | false =>
        obtain ⟨e1, e2, e4⟩ := hN.no rfl
        have hl := hN.len
        obtain ⟨b, rfl⟩ : ∃ b, at' = b + 1 := ⟨at' - 1, by omega⟩
        have hp := hN.dg.put 45 (by omega)
        obtain ⟨⟨u0, c0⟩, f0⟩ := hN.dg.cell (i := b) (by omega)
        have hback := run_convert_bytes_back (P := Tryd.prog) (wr.setCell ⟨w.heap.size, b, none⟩ (.int .u8 45)) 57 9 5 ⟨w.heap.size, b, none⟩ (20 - b) (45 :: D) Tryd.underlying57 Tryd.underlying5 Tryd.underlying9 hp.at
        have HO : Hid (On w wr) := hN.on
        have e3 : (45 :: D).length = 20 - b := by simp; omega
        rw [e3] at hback
        have HE : Hid (S = 45 :: D) := by show S = _; rw [HS.out, e1]
        have hsl := slice_tail (wr.setCell ⟨w.heap.size, b, none⟩ (.int .u8 45)) w.heap.size b (by omega)
        have l0 := hN.dg.lt
        have hb20 : b < 20 := by omega
        clear e1 hN hp
        go_wp2
        go_ret
        exact ⟨by rw [HE.out]; rfl, HO.out.setNew (Nat.le_refl _) _⟩
  · have HS : Hid (S = Lib.decDigits u) := by
      show S = _
      rw [hS, Lib.itoa, if_neg hneg, hu]; congr 1; omega
    have en : n = (u : Int) := by omega
    subst en
    clear hS hu
    go_enter Tryd.func71, Tryd.ntmps71
    go_wp2
    go_loopg [3, 5, 6] (u + 1) (fun gg s3 s5 s6 wr => ∃ (r at' : Nat) (D : List UInt8) (more : Bool), gg = (if more then r + 1 else 0) ∧ s3 = .int .u64 (r : Int) ∧ s5 = .int .i64 (at' : Int) ∧ s6 = .bool more ∧ r ≤ 9223372036854775808 ∧ Nl w u r at' D more wr)
    case atStart => exact ⟨u, 20, [], true, rfl, rfl, rfl, rfl, hub, hN0⟩
    case round =>
      clear hN0
      obtain ⟨r, at', D, more, hg, rfl, rfl, rfl, hr, hN⟩ := hrel
      cases more with
      | true =>
        have hl := hN.len
        obtain ⟨y1, y2, y3⟩ := hN.yes rfl
        obtain ⟨b, rfl⟩ : ∃ b, at' = b + 1 := ⟨at' - 1, by omega⟩
        have hst := hN.step
        obtain ⟨⟨u0, c0⟩, f0⟩ := hN.dg.cell (i := b) (by omega)
        obtain ⟨d, hdd, dv, d256⟩ : ∃ d : UInt8, d = UInt8.ofNat (48 + r % 10) ∧ 48 + (r : Int) % 10 = (d.toNat : Int) ∧ (d.toNat : Int) < 256 := ⟨_, rfl, (dig_val r).symm, by have := (UInt8.ofNat (48 + r % 10)).toNat_lt; omega⟩
        rw [← hdd] at hst
        have l0 := hN.dg.lt
        have hb20 : b < 20 := by omega
        have HST : Hid _ := hst
        have hrr : (r : Int) / 10 = ((r / 10 : Nat) : Int) := by omega
        clear hN y1 y2 y3 hst hdd
        obtain ⟨r2, hr2⟩ : ∃ r2, r2 = r / 10 := ⟨_, rfl⟩
        rw [← hr2] at HST hrr
        have HR2 : Hid (r2 = r / 10) := hr2
        clear hr2
        go_wp2
        go_roundg (if decide (0 < r2) then r2 + 1 else 0)
        case measure => have := HR2.out; simp only [if_true] at hg; split <;> (rename_i h; simp at h; omega)
        case rel => exact ⟨r2, b, d :: D, decide (0 < r2), rfl, rfl, by go_num, by simp, by have := HR2.out; omega, HST.out⟩
      | false =>
        obtain ⟨e1, e2, e4⟩ := hN.no rfl
        have hl := hN.len
        have hback := run_convert_bytes_back (P := Tryd.prog) wr 57 9 5 ⟨w.heap.size, at', none⟩ (20 - at') D Tryd.underlying57 Tryd.underlying5 Tryd.underlying9 hN.dg.at
        have HO : Hid (On w wr) := hN.on
        have e3 : D.length = 20 - at' := by omega
        rw [e3] at hback
        have HE : Hid (S = D) := by show S = D; rw [HS.out, e1]
        have hsl := slice_tail wr w.heap.size at' (by omega)
        have l0 := hN.dg.lt
        clear e1 hN
        go_wp2
        go_ret
        exact ⟨by rw [HE.out]; rfl, HO.out⟩
end Go.Proofs.YtlfeihgemdicfaaDoor
