/- Proved: for every int64 and every byte the law LexNumbers of layer 2 returns true and leaves its arguments as they were; the condition is that the listed package-level variables hold what the program's text lays, to which the card ties them. -/
import Derived.Test.YtoipapbdepobjaaDoorLexNum
import Derived.Test.YtoipapbdepobjaaDoorRefTell
import Derived.Test.YtoipapbdepobjaaDoorLift2
import Derived.Laws.IdiomStrings
namespace Go.Proofs.YtoipapbdepobjaaDoor
open Go.ChangeShapes Go.WideShapes Go.ChangeAt Go.WideMaps Go.WideElems Go.RowKit

theorem conv_one (W : World) (k B : Nat) (hB : B = W.heap.size) :
    (convert 22 9 (.slice (some ⟨B, 0, none⟩) 1 1)).run Tryd.prog (W.alloc (.cells #[.int .u8 (97 + (k : Int) % 26)] 5)) = .ok (.string ⟨#[UInt8.ofNat (97 + k % 26)]⟩) (W.alloc (.cells #[.int .u8 (97 + (k : Int) % 26)] 5)) := by
  have e := run_convert_bytes_back (P := Tryd.prog) (W.alloc (.cells #[.int .u8 (97 + (k : Int) % 26)] 5)) 22 9 5 ⟨B, 0, none⟩ 1 [UInt8.ofNat (97 + k % 26)] Tryd.underlying22 Tryd.underlying5 Tryd.underlying9 (fun j hj => by
    have hj0 : j = 0 := by simp at hj; omega
    subst hj0
    rw [Addr.add_lit, cell_new _ _ _ _ _ hB]
    have : ((UInt8.ofNat (97 + k % 26)).toNat : Int) = 97 + (k : Int) % 26 := by
      rw [UInt8.toNat_ofNat']
      omega
    show some (Value.int .u8 (97 + (k : Int) % 26)) = some (.int .u8 ((UInt8.ofNat (97 + k % 26)).toNat : Int))
    rw [this])
  exact e

set_option maxHeartbeats 2000000 in
set_option maxRecDepth 4000 in
theorem lexNumbers_at (n m : Int) (k : Nat) (hk : k ≤ 255) (h0 : -9223372036854775808 ≤ n) (h1 : n ≤ 9223372036854775807) (hm : bits .and .i64 n 255 = m) (m0 : 0 ≤ m) (m1 : m ≤ 255) (w : World) (hw : Lw w) :
    Calls Tryd.prog 5 #[.int .i64 n, .int .u8 k] w fun e w' => e = .returned (.bool true) ∧ On w w' := by
  obtain ⟨x, hx⟩ : ∃ x : ByteArray, x = ⟨(Lib.itoa n).toArray⟩ := ⟨_, rfl⟩
  obtain ⟨y, hy⟩ : ∃ y : ByteArray, y = ⟨(Lib.itoa m).toArray⟩ := ⟨_, rfl⟩
  have hxl : x.data.toList = Lib.itoa n := by rw [hx]
  have hyl : y.data.toList = Lib.itoa m := by rw [hy]
  have hxs : x.size ≤ 20 := by rw [size_list, hxl]; exact (itoa_shape n h0 h1).2.1
  have hys : y.size ≤ 20 := by rw [size_list, hyl]; exact (itoa_shape m (by omega) (by omega)).2.1
  have hT1 : ∀ w1, Calls Tryd.prog 12 #[.int .i64 n] w1 fun e w' => e = .returned (.string x) ∧ w' = w1 := fun w1 => by rw [hx]; exact rtext_is n h0 h1 w1
  have hT2 : ∀ w1, Calls Tryd.prog 12 #[.int .i64 m] w1 fun e w' => e = .returned (.string y) ∧ w' = w1 := fun w1 => by rw [hy]; exact rtext_is m (by omega) (by omega) w1
  have hA1 : ∀ w1, Lw w1 → Calls Tryd.prog 9 #[.string x] w1 fun e w' => ∃ g cap : Nat, e = .returned (.tuple #[.slice (some ⟨g, 0, none⟩) 2 cap, .agg #[.int .i64 0, .int .i64 0]]) ∧ 2 ≤ cap ∧ g < w'.heap.size ∧ w'.cell? ⟨g, 0, none⟩ = some (.int .i64 2) ∧ w'.cell? ⟨g, 1, none⟩ = some (.string x) ∧ w'.cell? ⟨g, 2, none⟩ = some (.int .i64 0) ∧ On w1 w' := by
    intro w1 h
    refine (all_is x (by omega) w1 h).mono ?_
    rintro e w' ⟨v, rfl, hT, hO⟩
    obtain ⟨t1, t2, t3⟩ := all_of (by omega) (num_one n h0 h1 x hxl)
    rw [t1] at hT
    rw [t2, t3]
    obtain ⟨g, cap, rfl, h1, h2, h3⟩ := hT.some (by simp)
    exact ⟨g, cap, rfl, h1, h2, h3 0 _ rfl, h3 1 _ rfl, h3 2 _ rfl, hO⟩
  have hc' : letN (UInt8.ofNat (97 + k % 26)).toNat = true := by
    have : (UInt8.ofNat (97 + k % 26)).toNat = 97 + k % 26 := by rw [UInt8.toNat_ofNat']; omega
    rw [this]
    simp only [letN, Bool.and_eq_true, decide_eq_true_eq]
    omega
  have hA2 : ∀ w1, Lw w1 → Calls Tryd.prog 9 #[.string (x ++ ⟨#[UInt8.ofNat (97 + k % 26)]⟩)] w1 fun e w' => ∃ ao cap, e = .returned (.tuple #[.slice ao 0 cap, .agg #[.int .i64 5, .int .i64 0]]) ∧ On w1 w' := by
    intro w1 h
    have hz : (x ++ ⟨#[UInt8.ofNat (97 + k % 26)]⟩ : ByteArray).size ≤ 4000 := by
      rw [ByteArray.size_append]
      show x.size + 1 ≤ 4000
      omega
    refine (all_is _ (by omega) w1 h).mono ?_
    rintro e w' ⟨v, rfl, hT, hO⟩
    have hw1 : runL [UInt8.ofNat (97 + k % 26)] = 1 := by
      simp only [runL, wordN, hc', Bool.true_or, if_true]
    obtain ⟨t1, t2, t3⟩ := all_of hz (num_bad (l := Lib.itoa n) (m := [UInt8.ofNat (97 + k % 26)]) (by rw [list_append, hxl]) (itoa_numeral n) hw1 (fun v => bad_letter n v _ hc'))
    rw [t1] at hT
    rw [t2, t3]
    obtain ⟨ao, cap, rfl⟩ := hT.len
    exact ⟨ao, cap, rfl, hO⟩
  have hA3 : ∀ w1, Lw w1 → Calls Tryd.prog 9 #[.string (⟨#[48]⟩ ++ y)] w1 fun e w' => ∃ ao cap, e = .returned (.tuple #[.slice ao 0 cap, .agg #[.int .i64 5, .int .i64 0]]) ∧ On w1 w' := by
    intro w1 h
    have hz : (⟨#[48]⟩ ++ y : ByteArray).size ≤ 4000 := by
      rw [ByteArray.size_append]
      show 1 + y.size ≤ 4000
      omega
    refine (all_is _ (by omega) w1 h).mono ?_
    rintro e w' ⟨v, rfl, hT, hO⟩
    obtain ⟨t1, t2, t3⟩ := all_of hz (num_bad (l := [48] ++ Lib.itoa m) (m := []) (by rw [list_append, hyl]; simp) (nought_numeral m m0) rfl (fun v => by rw [List.append_nil]; exact bad_nought m v))
    rw [t1] at hT
    rw [t2, t3]
    obtain ⟨ao, cap, rfl⟩ := hT.len
    exact ⟨ao, cap, rfl, hO⟩
  have hA4 : ∀ w1, Lw w1 → Calls Tryd.prog 9 #[.string (⟨#[45, 32]⟩ ++ y)] w1 fun e w' => ∃ g cap : Nat, e = .returned (.tuple #[.slice (some ⟨g, 0, none⟩) 3 cap, .agg #[.int .i64 0, .int .i64 0]]) ∧ 3 ≤ cap ∧ g < w'.heap.size ∧ w'.cell? ⟨g, 1, none⟩ = some (.string ⟨#[45]⟩) ∧ On w1 w' := by
    intro w1 h
    have hz : (⟨#[45, 32]⟩ ++ y : ByteArray).size ≤ 4000 := by
      rw [ByteArray.size_append]
      show 2 + y.size ≤ 4000
      omega
    refine (all_is _ (by omega) w1 h).mono ?_
    rintro e w' ⟨v, rfl, hT, hO⟩
    obtain ⟨t1, t2, t3⟩ := all_of hz (num_apart m (by omega) (by omega) _ y (by rw [list_append, hyl]) hyl)
    rw [t1] at hT
    rw [t2, t3]
    obtain ⟨g, cap, rfl, h1, h2, h3⟩ := hT.some (by simp)
    exact ⟨g, cap, rfl, h1, h2, h3 1 _ rfl, hO⟩
  have hAw := fun w1 (h : Lw w1) => awake_any w1 h
  have hcv0 := fun W B hB => conv_one W k B hB
  obtain ⟨L, hLd⟩ : ∃ L : UInt8, UInt8.ofNat (97 + k % 26) = L := ⟨_, rfl⟩
  rw [hLd] at hA2 hcv0
  clear hx hy hxl hyl hc' hLd
  go_enter Tryd.func5, Tryd.ntmps5
  go_wp2_with fail
  refine (hT1 _).mono ?_
  rintro e w1 ⟨rfl, rfl⟩
  go_wp2_with fail
  refine (hA1 _ hw).mono ?_
  rintro e w2 ⟨g, cap, rfl, hcap, hg, x0, x1, x2, hO2⟩
  have hL2 : Lw ((w2.alloc (.cells #[.int .i64 0, .int .i64 0] 26)).alloc (.cells #[.int .u8 (97 + (k : Int) % 26)] 5)) := hw.on ((hO2.alloc _).alloc _)
  have hcv := hcv0 (w2.alloc (.cells #[.int .i64 0, .int .i64 0] 26)) (w2.heap.size + 1) (by simp)
  clear hcv0
  go_wp2_with fail
  refine (hA2 _ hL2).mono ?_
  rintro e w3 ⟨ao3, cap3, rfl, hO3⟩
  have hL3 : Lw (w3.alloc (.cells #[.int .i64 5, .int .i64 0] 26)) := hL2.on (hO3.alloc _)
  clear hcv x0 x1 x2
  go_wp2_with fail
  refine (hT2 _).mono ?_
  rintro e w1 ⟨rfl, rfl⟩
  go_wp2_with fail
  refine (hA3 _ hL3).mono ?_
  rintro e w4 ⟨ao4, cap4, rfl, hO4⟩
  have hL4 : Lw (w4.alloc (.cells #[.int .i64 5, .int .i64 0] 26)) := hL3.on (hO4.alloc _)
  have u0 := (hO4.cell (p := ⟨w3.heap.size, 0, none⟩) (by simp)).trans (cell_new w3 #[.int .i64 5, .int .i64 0] 26 w3.heap.size 0 rfl)
  have u1 := (hO4.cell (p := ⟨w3.heap.size, 1, none⟩) (by simp)).trans (cell_new w3 #[.int .i64 5, .int .i64 0] 26 w3.heap.size 1 rfl)
  have hz34 : w3.heap.size < w4.heap.size := Nat.lt_of_lt_of_le (by simp) hO4.size
  go_wp2_with fail
  refine (hT2 _).mono ?_
  rintro e w1 ⟨rfl, rfl⟩
  go_wp2_with fail
  refine (hA4 _ hL4).mono ?_
  rintro e w5 ⟨g5, cap5, rfl, hcap5, hg5, z1, hO5⟩
  have hL5 : Lw (w5.alloc (.cells #[.int .i64 0, .int .i64 0] 26)) := hL4.on (hO5.alloc _)
  have v0 := (hO5.cell (p := ⟨w4.heap.size, 0, none⟩) (by simp)).trans (cell_new w4 #[.int .i64 5, .int .i64 0] 26 w4.heap.size 0 rfl)
  have v1 := (hO5.cell (p := ⟨w4.heap.size, 1, none⟩) (by simp)).trans (cell_new w4 #[.int .i64 5, .int .i64 0] 26 w4.heap.size 1 rfl)
  have o45 : On w4 w5 := ((On.refl w4).alloc _).trans hO5
  have u0' := (o45.cell (p := ⟨w3.heap.size, 0, none⟩) hz34).trans u0
  have u1' := (o45.cell (p := ⟨w3.heap.size, 1, none⟩) hz34).trans u1
  have hz45 : w4.heap.size < w5.heap.size := Nat.lt_of_lt_of_le (by simp) hO5.size
  have hz35 : w3.heap.size < w5.heap.size := Nat.lt_trans hz34 hz45
  go_wp2_with fail
  refine (hAw _ hL5).mono ?_
  rintro e w6 ⟨rfl, hO6⟩
  go_wp2_with fail
  go_ret
  exact ⟨rfl, ((((((hO2.alloc _).alloc _).trans (hO3.alloc _)).trans (hO4.alloc _)).trans (hO5.alloc _)).trans hO6)⟩

theorem lexNumbers_walk (n c : Int) (h0 : -9223372036854775808 ≤ n) (h1 : n ≤ 9223372036854775807) (c0 : 0 ≤ c) (c1 : c ≤ 255) (w : World) (hw : Lw w) :
    Calls Tryd.prog 5 #[.int .i64 n, .int .u8 c] w fun e w' => e = .returned (.bool true) ∧ On w w' := by
  obtain ⟨k, hk⟩ : ∃ k : Nat, c = (k : Int) := ⟨c.toNat, by omega⟩
  subst hk
  exact lexNumbers_at n (n % 256) k (by omega) h0 h1 (i64_and255 n) (by omega) (by omega) w hw

set_option maxRecDepth 100000 in
theorem lexNumbers_lifted (os : Os) (started : os.Started) (H : Type) (enc : TypeId × Value → H) :
    ReturnsInHanded {} Tryd.checked os 5 .any (fun w args => (Rows.lexNumbersSpec.pre enc Tryd.prog Tryd.f5 [] false w args ∧ laidMetH Tryd.prog laidL w) ∧ sizedMet enc Tryd.prog Tryd.f5 (OpenSpec.ofChange Rows.lexNumbersSpec) false w args)
      (Rows.lexNumbersSpec.post enc Tryd.prog Tryd.f5 false true false false) := by
  refine returnsInHanded_of_change_and (C := Tryd.checked) (X := fun w _ => laidMetH Tryd.prog laidL w) (fun _ _ _ hh h => h.of_heap hh) own started (by kernel_rfl) Tryd.func5
    (ChangeSpec.witness_shaped (enc := enc) (C := Tryd.checked) (os := os) (X := fun w _ => laidMetH Tryd.prog laidL w) false (World.doorLaid Tryd.prog 400 os) #[.int .i64 0, .int .u8 0] 8 rfl (World.shaped_of_RefB (by kernel_rfl) (by kernel_rfl)) (by kernel_rfl) (by kernel_rfl) (by kernel_rfl) (door_met os _)) ?_
  intro W base args ds gs before hval0 hW _ _ hL _
  have hval : ∀ (j : Nat) t v, Tryd.f5.params[j]? = some t → args[j]? = some v → Value.okWide Tryd.prog W .any base t v := hval0
  have hW' := hW
  obtain ⟨p, q, hA0, hV, rfl, hfz, hnd⟩ := hW
  have hA : DataW.TrodAll enc Tryd.prog W 0 (fun _ => true) true Tryd.f5.params.toList args.toList ds p := hA0
  rw [Tryd.params5] at hA hval
  obtain ⟨v0, v1, d0, d1, p0, p1, rfl, rfl, rfl, h0, h1⟩ := trodAll_two hA
  obtain ⟨rfl, rfl⟩ := trodVars_none hV
  obtain ⟨n, rfl, rfl, rfl, wn⟩ := open_int Tryd.underlying2 (hval 0 2 v0 rfl rfl) h0
  obtain ⟨n0, n1⟩ := bd wn
  obtain ⟨c, rfl, rfl, rfl, wc⟩ := open_int Tryd.underlying5 (hval 1 5 v1 rfl rfl) h1
  obtain ⟨c0, c1⟩ := bd8 wc
  clear hA0 hval0
  simp only [List.append_nil] at hW'
  refine (lexNumbers_walk n c n0 n1 c0 c1 W (of_laid hL)).mono fun e W' ⟨he, hw⟩ => ?_
  subst he
  refine ⟨_, rfl, _, _, _, [], [], [], hW', ?_, ?_, rfl, Below.frame hw _, fun h => by cases h⟩
  · exact trodAll_mk1 (shut_bool Tryd.underlying4 _)
  · exact trodAll_mk2 (shut_int Tryd.underlying2 wn) (shut_int Tryd.underlying5 wc)

theorem lexNumbers_said : Rows.LexNumbersSaid :=
  OpenClaim.holds_of_wide 5 Tryd.f5 rfl rfl rfl rfl rfl rfl rfl ⟨rfl, rfl, rfl, rfl, rfl⟩ rfl rfl rfl rfl rfl (by kernel_rfl) Tryd.func5 (by kernel_rfl)
    (of_decide_eq_true (by kernel_rfl)) (by unfold Func.isWrapper; first | (rw [if_pos (by decide +kernel)]; kernel_rfl) | (rw [if_neg (by decide +kernel)]; exact ⟨rfl, rfl⟩))
    (fun os started H enc _ => lexNumbers_lifted os started H enc)

theorem lexNumbers_card : Rows.LexNumbersCardSaid :=
  Claim7.holds_tied_plain_at .later [] [.data, .data, .data, .sentinel, .sentinel] true (true, "e778a03b216b4ff87b621aaa108ee97d2984d4c2323c08988875fd2d4addd431") true
    lexNumbers_said (fun _ h => by cases h) (by kernel_rfl) (fun _ h => by cases h) lexNumbers_row_tie rfl ⟨rfl, rfl⟩ (by kernel_rfl) rfl
    (fun f fn hf hfn => by
      obtain rfl : f = 5 := Option.some.inj ((show Tryd.prog.funcNamed "jacquard/jacquardlaw2.LexNumbers" = some 5 by kernel_rfl).symm.trans hf) |>.symm
      obtain rfl : fn = Tryd.f5 := (Option.some.inj (Tryd.func5.symm.trans hfn)).symm
      exact ⟨by kernel_rfl, fun j t ht => by
        rw [Tryd.params5] at ht
        have hm : t ∈ [2, 5] := by simpa using Array.mem_of_getElem? ht
        have hall : ([2, 5].all fun u => !Tryd.prog.wantsStandIn u) = true := by kernel_rfl
        exact (show Tryd.prog.wantsStandIn t = false by simpa using List.all_eq_true.1 hall t hm)⟩)
    (by kernel_rfl)
#print axioms lexNumbers_card

end Go.Proofs.YtoipapbdepobjaaDoor
