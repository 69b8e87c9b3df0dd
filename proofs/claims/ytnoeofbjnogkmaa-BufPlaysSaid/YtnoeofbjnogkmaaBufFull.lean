/- The law BufFull, walked. -/
import Derived.Test.YtnoeofbjnogkmaaAwake15
namespace Go.Proofs.Ytnoeofbjnogkmaa
open Go.RowKit

theorem and_1 (n : Int) : bits .and .i64 n 1 = n % 2 := by
  have h63 : (BitVec.ofInt 64 1).toNat = 2 ^ 1 - 1 := by decide
  have key : (BitVec.ofInt 64 n &&& BitVec.ofInt 64 1).toNat = (n % ((2 ^ 64 : Nat) : Int)).toNat % 2 ^ 1 := by
    rw [BitVec.toNat_and, BitVec.toNat_ofInt, h63, Nat.and_two_pow_sub_one_eq_mod]
  show IntKind.i64.wrap ((BitVec.ofInt 64 n &&& BitVec.ofInt 64 1).toNat : Nat) = n % 2
  rw [key, IntKind.wrap_i64]
  omega
theorem and_3 (n : Int) : bits .and .i64 n 3 = n % 4 := by
  have h63 : (BitVec.ofInt 64 3).toNat = 2 ^ 2 - 1 := by decide
  have key : (BitVec.ofInt 64 n &&& BitVec.ofInt 64 3).toNat = (n % ((2 ^ 64 : Nat) : Int)).toNat % 2 ^ 2 := by
    rw [BitVec.toNat_and, BitVec.toNat_ofInt, h63, Nat.and_two_pow_sub_one_eq_mod]
  show IntKind.i64.wrap ((BitVec.ofInt 64 n &&& BitVec.ofInt 64 3).toNat : Nat) = n % 4
  rw [key, IntKind.wrap_i64]
  omega
theorem and_7 (n : Int) : bits .and .i64 n 7 = n % 8 := by
  have h63 : (BitVec.ofInt 64 7).toNat = 2 ^ 3 - 1 := by decide
  have key : (BitVec.ofInt 64 n &&& BitVec.ofInt 64 7).toNat = (n % ((2 ^ 64 : Nat) : Int)).toNat % 2 ^ 3 := by
    rw [BitVec.toNat_and, BitVec.toNat_ofInt, h63, Nat.and_two_pow_sub_one_eq_mod]
  show IntKind.i64.wrap ((BitVec.ofInt 64 n &&& BitVec.ofInt 64 7).toNat : Nat) = n % 8
  rw [key, IntKind.wrap_i64]
  omega
theorem and_63 (n : Int) : bits .and .i64 n 63 = n % 64 := by
  have h63 : (BitVec.ofInt 64 63).toNat = 2 ^ 6 - 1 := by decide
  have key : (BitVec.ofInt 64 n &&& BitVec.ofInt 64 63).toNat = (n % ((2 ^ 64 : Nat) : Int)).toNat % 2 ^ 6 := by
    rw [BitVec.toNat_and, BitVec.toNat_ofInt, h63, Nat.and_two_pow_sub_one_eq_mod]
  show IntKind.i64.wrap ((BitVec.ofInt 64 n &&& BitVec.ofInt 64 63).toNat : Nat) = n % 64
  rw [key, IntKind.wrap_i64]
  omega
theorem and_cut (p : Int → Int) (n : Int) (k : Nat) (h : p n = n % ((k : Nat) : Int)) (hk : 0 < k) : ∃ j : Nat, p n = (j : Int) ∧ j < k := by
  refine ⟨(n % (k : Int)).toNat, ?_, ?_⟩
  · rw [h, Int.toNat_of_nonneg (Int.emod_nonneg _ (by omega))]
  · have := Int.emod_lt_of_pos n (b := (k : Int)) (by omega)
    omega
/-- How many of the first numbers are less than 4 by their last three bits. -/
def cntK : Nat → Nat
  | 0 => 0
  | i + 1 => cntK i + if i % 8 < 4 then 1 else 0
theorem cntK_le {i j : Nat} (h : i ≤ j) : cntK i ≤ cntK j := by
  induction j with
  | zero => obtain rfl : i = 0 := by omega
            exact Nat.le_refl _
  | succ j ih =>
    rcases Nat.lt_or_ge i (j + 1) with h1 | h1
    · exact Nat.le_trans (ih (by omega)) (Nat.le_add_right _ _)
    · obtain rfl : i = j + 1 := by omega
      exact Nat.le_refl _
theorem cntK_lt {j k : Nat} (h : k = cntK j) (h4 : j % 8 < 4) : k + 1 = cntK (j + 1) := by
  subst h
  show _ = cntK j + (if j % 8 < 4 then 1 else 0)
  rw [if_pos h4]
theorem cntK_ge {j k : Nat} (h : k = cntK j) (h4 : ¬ j % 8 < 4) : k = cntK (j + 1) := by
  subst h
  show _ = cntK j + (if j % 8 < 4 then 1 else 0)
  rw [if_neg h4]
  rfl
theorem four_lt {d : Nat} (h : d < 4) : (d : Int) < 4 := by omega
theorem four_ge {d : Nat} (h : ¬ d < 4) : decide ((d : Int) < 4) = false := decide_eq_false (by omega)
theorem put_c {m : Int} {i : Nat} {x : BufT} {wb : List EnT} {e : EnT} (he : EnIn e) (h : BW m x wb) (hm : m = 2 ∨ m = 3) (hc : 0 ≤ e.1 ∧ e.1 ≤ 3) (hl : wb.length = min i 24) :
    BW m (putB x e he) (wput m wb e) ∧ (wput m wb e).length = min (i + 1) 24 := by
  refine ⟨h.put he, ?_⟩
  unfold wput
  split
  · rw [List.length_append, hl]
    simp only [List.length_cons, List.length_nil]
    omega
  · omega
theorem wput_mem {m : Int} {wb : List EnT} {e x : EnT} (h : x ∈ wput m wb e) : x = e ∨ x ∈ wb := by
  unfold wput at h
  split at h
  · rcases List.mem_append.1 h with h | h
    · exact Or.inr h
    · exact Or.inl (by simpa using h)
  · exact Or.inr h
/-- What the law's Bufs are behind i rounds. -/
structure FlP (c m : Int) (i : Nat) (x y z : BufT) : Prop where
  x1 : ∃ wb, BW 3 x wb ∧ wb.length = min i 24 ∧ ∀ e ∈ wb, e.1 = c
  y1 : ∃ wc, BW m y wc
  z1 : ∃ wd, BW 2 z wd ∧ wd.length = min (cntK i) 24
theorem FlP.zero (c m : Int) (h2 : InR 2) (h3 : InR 3) (hm : InR m) : FlP c m 0 (newB 3 h3) (newB m hm) (newB 2 h2) :=
  ⟨⟨[], BW.new 3 h3, rfl, fun _ h => by simp at h⟩, ⟨[], BW.new m hm⟩, ⟨[], BW.new 2 h2, rfl⟩⟩
theorem FlP.step {c m : Int} {i : Nat} {x y z : BufT} (h : FlP c m i x y z) (hc : 0 ≤ c ∧ c ≤ 3) (h1 : EnIn (c, (i : Int), (i : Int))) {d : Int} (hd : d = ((i % 8 : Nat) : Int)) (h2 : EnIn (d, (i : Int), (i : Int))) :
    FlP c m (i + 1) (putB x _ h1) (putB y _ h1) (putB z _ h2) := by
  obtain ⟨⟨wb, a1, a2, a3⟩, ⟨wc, b1⟩, ⟨wd, c1, c2⟩⟩ := h
  obtain ⟨p1, p2⟩ := put_c h1 a1 (Or.inr rfl) hc a2
  refine ⟨⟨_, p1, p2, fun e he => ?_⟩, ⟨_, b1.put h1⟩, ⟨_, c1.put h2, ?_⟩⟩
  · rcases wput_mem he with rfl | he
    · rfl
    · exact a3 e he
  · show _ = min (cntK i + if i % 8 < 4 then 1 else 0) 24
    unfold wput
    by_cases h4 : i % 8 < 4
    · rw [if_pos h4]
      split
      · rw [List.length_append, c2]
        simp only [List.length_cons, List.length_nil]
        omega
      · rename_i hn
        have : ¬ wd.length < 24 := fun q => hn ⟨Or.inl rfl, by show 0 ≤ d; omega, by show d ≤ 3; omega, q⟩
        omega
    · rw [if_neg h4, if_neg (by rintro ⟨_, _, q, _⟩; have : d ≤ 3 := q; omega)]
      exact c2
theorem FlP.len7 {c m : Int} {i : Nat} {x y z : BufT} (h : FlP c m i x y z) : x.l.length = min i 24 := by
  obtain ⟨wb, a1, a2, _⟩ := h.x1
  rw [a1.1, a2]
theorem FlP.len9 {c m : Int} {i : Nat} {x y z : BufT} (h : FlP c m i x y z) : z.l.length = min (cntK i) 24 := by
  obtain ⟨wb, a1, a2⟩ := h.z1
  rw [a1.1, a2]
theorem FlP.row7 {c m : Int} {i : Nat} {x y z : BufT} (h : FlP c m i x y z) : (rowB x c).length = min i 24 := by
  obtain ⟨wb, a1, a2, a3⟩ := h.x1
  rw [a1.row, ← a2]
  unfold filtW
  rw [seesW_not (by decide), filt_all a3]
theorem FlP.emp8 {c m : Int} {i : Nat} {x y z : BufT} (h : FlP c m i x y z) (h2 : m ≠ 2) (h3 : m ≠ 3) : y.l.length = 0 := by
  obtain ⟨wc, _, ⟨q, _⟩ | ⟨q, _⟩ | ⟨_, _, _, q, _⟩⟩ := h.y1
  · exact absurd q h2
  · exact absurd q h3
  · rw [q]
    rfl
/-- The law's three Bufs in memory. -/
structure FlM (w W : World) (N : Nat) (x y z : BufT) : Prop where
  on : On w W
  lo : w.heap.size ≤ N
  b7 : Bk W N (bufA x)
  b8 : Bk W (N + 1) (bufA y)
  b9 : Bk W (N + 1 + 1) (bufA z)
section
variable {w W W' : World} {N : Nat} {x y z : BufT}
theorem FlM.go (h : FlM w W N x y z) (k : On W W') : FlM w W' N x y z := ⟨h.on.trans k, h.lo, h.b7.on k, h.b8.on k, h.b9.on k⟩
theorem FlM.set7 (h : FlM w W N x y z) (x' : BufT) : FlM w (W.setRow N (bufA x')) N x' y z := ⟨h.on.row h.lo _, h.lo, h.b7.row _, h.b8.rowFar (by omega) _, h.b9.rowFar (by omega) _⟩
theorem FlM.set8 (h : FlM w W N x y z) (y' : BufT) : FlM w (W.setRow (N + 1) (bufA y')) N x y' z := ⟨h.on.row (by have := h.lo; omega) _, h.lo, h.b7.rowFar (by omega) _, h.b8.row _, h.b9.rowFar (by omega) _⟩
theorem FlM.set9 (h : FlM w W N x y z) (z' : BufT) : FlM w (W.setRow (N + 1 + 1) (bufA z')) N x y z' := ⟨h.on.row (by have := h.lo; omega) _, h.lo, h.b7.rowFar (by omega) _, h.b8.rowFar (by omega) _, h.b9.row _⟩
end
theorem inr_nat {i : Nat} (h : i ≤ 1000) : InR (i : Int) := inr_small (by omega) (by omega)
set_option maxHeartbeats 4000000 in
set_option maxRecDepth 8000 in
theorem bufFull_walk (n0 c0 m : Int) (w : World) (hm : InR m) : Calls Try.prog 4 #[.int .i64 n0, .int .i64 c0, .int .i64 m] w fun e w' => e = .returned (.bool true) ∧ On w w' := by
  obtain ⟨n, hn, hn64⟩ := and_cut (fun n => bits .and .i64 n 63) n0 64 (and_63 n0) (by decide)
  obtain ⟨c, hc, hc4⟩ := and_cut (fun n => bits .and .i64 n 3) c0 4 (and_3 c0) (by decide)
  replace hn : bits .and .i64 n0 63 = (n : Int) := hn
  replace hc : bits .and .i64 c0 3 = (c : Int) := hc
  have hz : ∀ w, (zeroValue 27).run Try.prog w = .ok (.agg (bufA bufZ)) w := fun w => (zero_of_info buf_info).1 w
  have r3 : InR 3 := inr_small (by decide) (by decide)
  have h1 := fun W => new_is 3 r3 W
  have h2 := fun W => new_is m hm W
  have h3 := fun W => new_is 2 aw_r2 W
  have HP0 : Hid (FlP c m 0 (newB 3 r3) (newB m hm) (newB 2 aw_r2)) := FlP.zero c m aw_r2 r3 hm
  have HC : Hid (c < 4) := hc4
  have HN : Hid (n < 64) := hn64
  generalize newB 3 r3 = x at *
  generalize newB m hm = y at *
  generalize newB 2 aw_r2 = z at *
  clear hc4 hn64 hm r3
  go_enter Try.func4, Try.ntmps4
  go_wp2_with fail
  refine (h1 _).mono ?_
  rintro _ w1 ⟨rfl, k1⟩
  clear h1
  go_wp2_with fail
  refine (h2 _).mono ?_
  rintro _ w2 ⟨rfl, k2⟩
  clear h2
  go_wp2_with fail
  refine (h3 _).mono ?_
  rintro _ w3 ⟨rfl, k3⟩
  clear h3 hn hc
  have K3 : Hid (On w w3) := (k1.trans k2).trans k3
  obtain ⟨W4, hW4⟩ : ∃ W4, W4 = ((w3.alloc (.cells (bufA bufZ) 27)).alloc (.cells (bufA bufZ) 27)).alloc (.cells (bufA bufZ) 27) := ⟨_, rfl⟩
  have HW4 : Hid (W4 = ((w3.alloc (.cells (bufA bufZ) 27)).alloc (.cells (bufA bufZ) 27)).alloc (.cells (bufA bufZ) 27)) := hW4
  have M4 : Hid (FlM w W4 w3.heap.size bufZ bufZ bufZ) := by
    show FlM _ _ _ _ _ _
    have z1 : (w3.alloc (.cells (bufA bufZ) 27)).heap.size = w3.heap.size + 1 := by simp
    have z2 : ((w3.alloc (.cells (bufA bufZ) 27)).alloc (.cells (bufA bufZ) 27)).heap.size = w3.heap.size + 1 + 1 := by simp
    rw [hW4]
    refine ⟨((K3.out.alloc _).alloc _).alloc _, K3.out.size, ((Bk.new w3 _ _).alloc _).alloc _, ?_, ?_⟩
    · rw [← z1]; exact (Bk.new _ _ _).alloc _
    · rw [← z2]; exact Bk.new _ _ _
  have M5 : Hid (FlM w (W4.setRow w3.heap.size (bufA x)) w3.heap.size x bufZ bufZ) := M4.out.set7 x
  have M6 : Hid (FlM w ((W4.setRow w3.heap.size (bufA x)).setRow (w3.heap.size + 1) (bufA y)) w3.heap.size x y bufZ) := M5.out.set8 y
  have M7 : Hid (FlM w (((W4.setRow w3.heap.size (bufA x)).setRow (w3.heap.size + 1) (bufA y)).setRow (w3.heap.size + 1 + 1) (bufA z)) w3.heap.size x y z) := M6.out.set9 z
  clear k1 k2 k3 hW4
  go_wp2_with (first
    | (rw [← HW4.out]; refine wpList_bst rfl rfl rfl (by exact rfl) M4.out.b7 ?_)
    | (refine wpList_bst rfl rfl rfl (by exact rfl) M5.out.b8 ?_)
    | (refine wpList_bst rfl rfl rfl (by exact rfl) M6.out.b9 ?_))
  clear hz M4 M5 M6 HW4
  generalize w3.heap.size = N at *
  go_loopg [10] n (fun gg s10 wr => ∃ i x y z, i ≤ n ∧ gg = n - i ∧ s10 = .int .i64 i ∧ Hid (FlP c m i x y z) ∧ Hid (FlM w wr N x y z))
  case atStart => exact ⟨0, x, y, z, Nat.zero_le _, rfl, rfl, HP0, M7⟩
  case round =>
    obtain ⟨i, x, y, z, hin, hg, rfl, HP, HM⟩ := hrel
    have HI : Hid (i ≤ n) := hin
    have HG : Hid (gk = n - i) := hg
    clear HP0 M7 hg hin
    rcases Nat.lt_or_ge i n with hlt | hge
    · have b1 : (i : Int) < (n : Int) := by omega
      have hi : i ≤ 999 := by have := HN.out; omega
      have hc3 : c ≤ 1000 := by have := HC.out; omega
      have h1 : EnIn ((c : Int), (i : Int), (i : Int)) := enIn3 (inr_nat hc3) (inr_nat (Nat.le_succ_of_le hi)) (inr_nat (Nat.le_succ_of_le hi))
      have h2 : EnIn (((i % 8 : Nat) : Int), (i : Int), (i : Int)) := enIn3 (inr_nat (Nat.le_trans (Nat.le_of_lt (Nat.mod_lt i (by decide))) (by decide))) (inr_nat (Nat.le_succ_of_le hi)) (inr_nat (Nat.le_succ_of_le hi))
      have had : bits .and .i64 (i : Int) 7 = ((i % 8 : Nat) : Int) := by rw [and_7]; omega
      have hov : wrap64 ((i : Int) + 1) = ((i + 1 : Nat) : Int) := wrapS (by omega) (by have := HN.out; omega)
      have HP2 : Hid (FlP c m (i + 1) (putB x _ h1) (putB y _ h1) (putB z _ h2)) := HP.out.step ⟨by omega, by have := HC.out; omega⟩ h1 rfl h2
      have c1 := fun W => put_is x c i i h1 W
      have c2 := fun W => put_is y c i i h1 W
      have c3 := fun W => put_is z ((i % 8 : Nat) : Int) i i h2 W
      have HL : Hid (i < n) := hlt
      generalize putB x _ h1 = x' at *
      generalize putB y _ h1 = y' at *
      generalize putB z _ h2 = z' at *
      clear h1 h2 hi hc3 hlt HP
      generalize i % 8 = d at *
      go_wp2_with (refine wpList_bld rfl rfl rfl HM.out.b7 ?_)
      refine (c1 _).mono ?_
      rintro _ w5 ⟨rfl, k5⟩
      have M5 : Hid (FlM w w5 N x y z) := HM.out.go k5
      have M5' : Hid (FlM w (w5.setRow N (bufA x')) N x' y z) := M5.out.set7 x'
      clear k5 c1
      go_wp2_with (first
        | (refine wpList_bst rfl rfl rfl (by exact rfl) M5.out.b7 ?_)
        | (refine wpList_bld rfl rfl rfl M5'.out.b8 ?_))
      refine (c2 _).mono ?_
      rintro _ w6 ⟨rfl, k6⟩
      have M6 : Hid (FlM w w6 N x' y z) := M5'.out.go k6
      have M6' : Hid (FlM w (w6.setRow (N + 1) (bufA y')) N x' y' z) := M6.out.set8 y'
      clear k6 c2 M5 M5'
      go_wp2_with (first
        | (refine wpList_bst rfl rfl rfl (by exact rfl) M6.out.b8 ?_)
        | (refine wpList_bld rfl rfl rfl M6'.out.b9 ?_))
      refine (c3 _).mono ?_
      rintro _ w7 ⟨rfl, k7⟩
      have M8 : Hid (FlM w w7 N x' y' z) := M6'.out.go k7
      have M8' : Hid (FlM w (w7.setRow (N + 1 + 1) (bufA z')) N x' y' z') := M8.out.set9 z'
      clear k7 c3 M6 M6'
      go_wp2_with (refine wpList_bst rfl rfl rfl (by exact rfl) M8.out.b9 ?_)
      go_roundg (n - (i + 1))
      case measure => have := HL.out; have := HG.out; omega
      case rel => exact ⟨i + 1, x', y', z', HL.out, rfl, by go_num, HP2, M8'⟩
    · obtain rfl : i = n := by have := HI.out; omega
      have b1 : decide ((i : Int) < (i : Int)) = false := decide_eq_false (by omega)
      clear HI HG hge
      obtain ⟨mi, hmi⟩ : ∃ mi : Nat, mi = min i 24 := ⟨_, rfl⟩
      obtain ⟨ck, hck⟩ : ∃ ck : Nat, ck = min (cntK i) 24 := ⟨_, rfl⟩
      have HCK : Hid (ck = min (cntK i) 24) := hck
      have c1 := fun W => len_is x W
      have c2 := fun W => list_is x c W
      have c3 := fun W => empty_is y W
      have c4 := fun W => len_is z W
      rw [HP.out.len7, ← hmi] at c1
      rw [HP.out.len9, ← hck] at c4
      rw [HP.out.row7, ← hmi] at c2
      have hmn : min (i : Int) 24 = (mi : Int) := by omega
      have H8 : m ≠ 2 → m ≠ 3 → y.l.length = 0 := HP.out.emp8
      have hm4 : (m != 2) = false ∨ ((m != 2) = true ∧ (m != 3) = false) ∨ ((m != 2) = true ∧ (m != 3) = true ∧ y.l.length = 0) := by
        by_cases m2 : m = 2
        · exact Or.inl (by simp [m2])
        · by_cases m3 : m = 3
          · exact Or.inr (Or.inl ⟨by simp [m2], by simp [m3]⟩)
          · exact Or.inr (Or.inr ⟨by simp [m2], by simp [m3], H8 m2 m3⟩)
      have HA := fun W => awake15_is W
      clear H8 hmi hck HP
      rcases hm4 with m1 | ⟨m1, m2⟩ | ⟨m1, m2, m3⟩
      rotate_left 2
      rw [m3] at c3
      rotate_left 1
      all_goals
        go_wp2_with (refine wpList_bld rfl rfl rfl HM.out.b7 ?_)
        refine (c1 _).mono ?_
        rintro _ w5 ⟨rfl, k5⟩
        have M5 : Hid (FlM w w5 N x y z) := HM.out.go k5
        clear k5 c1
        go_wp2_with (refine wpList_bld rfl rfl rfl M5.out.b7 ?_)
        refine (c2 _).mono ?_
        rintro _ w6 ⟨v6, rfl, o6, k6⟩
        have M6 : Hid (FlM w w6 N x y z) := M5.out.go k6
        obtain ⟨a6, d6, rfl⟩ := own_slice o6
        clear k6 c2 o6
        go_wp2_with (first
          | (refine wpList_bld rfl rfl rfl M6.out.b8 ?_)
          | (go_at_call 13; refine (c3 _).mono ?_; rintro _ w7 ⟨rfl, k7⟩; have M7 : Hid (FlM w w7 N x y z) := M6.out.go k7; clear k7))
        first | (have M9 := M7; clear M7) | have M9 := M6
        clear M5 M6 HM c3 hmn b1 m1
        try clear m2
        try clear m3
        go_loopg [12, 13] i (fun gg s12 s13 wr => ∃ j kk : Nat, j ≤ i ∧ gg = i - j ∧ s12 = .int .i64 kk ∧ s13 = .int .i64 j ∧ Hid (kk = cntK j ∧ kk ≤ 24) ∧ Hid (FlM w wr N x y z))
        case atStart => exact ⟨0, 0, Nat.zero_le _, rfl, rfl, rfl, ⟨rfl, by decide⟩, M9⟩
        case round =>
          obtain ⟨j, kk, hj, hg, rfl, rfl, HK, HM⟩ := hrel
          have HJ : Hid (j ≤ i) := hj
          have HG : Hid (gk = i - j) := hg
          clear hj hg M9
          by_cases hgo : j < i ∧ kk < 24
          · have d1 : (j : Int) < (i : Int) := by omega
            have d2 : (kk : Int) < 24 := by omega
            have had : bits .and .i64 (j : Int) 7 = ((j % 8 : Nat) : Int) := by rw [and_7]; omega
            obtain ⟨j1, hj1⟩ : ∃ j1, j1 = j + 1 := ⟨_, rfl⟩
            obtain ⟨q1, hq1⟩ : ∃ q1, q1 = kk + 1 := ⟨_, rfl⟩
            have hv1 : wrap64 ((j : Int) + 1) = (j1 : Int) := by rw [wrapS (by omega) (by have := HN.out; omega)]; omega
            have hv2 : wrap64 ((kk : Int) + 1) = (q1 : Int) := by rw [wrapS (by omega) (by omega)]; omega
            have HJ1 : Hid (j1 = j + 1) := hj1
            have HQ1 : Hid (q1 = kk + 1) := hq1
            have HQI : Hid ((kk : Int) + 1 = (q1 : Int)) := by show _ = _; omega
            clear hj1 hq1
            have HGO : Hid (j < i ∧ kk < 24) := hgo
            clear hgo
            by_cases h4 : j % 8 < 4
            · have HK2 : Hid (q1 = cntK j1 ∧ q1 ≤ 24) := by show _ ∧ _; rw [HJ1.out, HQ1.out]; exact ⟨cntK_lt HK.out.1 h4, HGO.out.2⟩
              have d3 : ((j % 8 : Nat) : Int) < 4 := four_lt h4
              clear h4
              generalize j % 8 = d at *
              go_wp2
              go_roundg (i - j1)
              case measure => have := HGO.out; have := HG.out; have := HJ1.out; omega
              case rel => exact ⟨j1, q1, by have := HGO.out; have := HJ1.out; omega, rfl, (by first | rfl | exact congrArg (Value.int .i64) HQI.out | exact congrArg (Value.int .i64) hv2), (by first | rfl | exact congrArg (Value.int .i64) hv1), HK2, HM⟩
            · have HK2 : Hid (kk = cntK j1 ∧ kk ≤ 24) := by show _ ∧ _; rw [HJ1.out]; exact ⟨cntK_ge HK.out.1 h4, HK.out.2⟩
              have d3 : decide (((j % 8 : Nat) : Int) < 4) = false := four_ge h4
              clear h4
              generalize j % 8 = d at *
              go_wp2
              go_roundg (i - j1)
              case measure => have := HGO.out; have := HG.out; have := HJ1.out; omega
              case rel => exact ⟨j1, kk, by have := HGO.out; have := HJ1.out; omega, rfl, (by first | rfl | exact congrArg (Value.int .i64) HQI.out | exact congrArg (Value.int .i64) hv2), (by first | rfl | exact congrArg (Value.int .i64) hv1), HK2, HM⟩
          · have hck2 : kk = ck := by
              have h1 := HK.out
              have h2 := HJ.out
              have h3 := cntK_le h2
              have h4 := HCK.out
              by_cases hji : j = i
              · subst hji; omega
              · omega
            have hd : decide (j < i) = false ∨ ((j : Int) < (i : Int) ∧ decide ((kk : Int) < 24) = false) := by
              by_cases hji : j < i
              · exact Or.inr ⟨by omega, decide_eq_false (by omega)⟩
              · exact Or.inl (decide_eq_false (by omega))
            subst hck2
            clear HK HJ HG HCK hgo
            rcases hd with hd | ⟨hd, hd2⟩
            all_goals
              go_wp2_with (refine wpList_bld rfl rfl rfl HM.out.b9 ?_)
              refine (c4 _).mono ?_
              rintro _ w10 ⟨rfl, k10⟩
              have K10 : Hid (On w w10) := HM.out.on.trans k10
              clear k10 c4
              go_wp2_with (go_at_call 11; refine (HA _).mono ?_; rintro _ w11 ⟨rfl, k11⟩)
              go_ret
              exact ⟨rfl, K10.out.trans k11⟩
end Go.Proofs.Ytnoeofbjnogkmaa
