/- Proved: for every string the law LexReader of layer 2 returns true and leaves its argument as it was; the condition is that the listed package-level variables hold what the program's text lays, to which the card ties them. -/
import Derived.Test.YtoipapbdepobjaaDoorLexAwake
import Derived.Test.YtoipapbdepobjaaDoorLift2
namespace Go.Proofs.YtoipapbdepobjaaDoor
open Go.ChangeShapes Go.WideShapes Go.ChangeAt Go.WideMaps Go.WideElems Go.RowKit
open Go.ChangeMaps (open_string shut_string)

theorem kd_end {s : ByteArray} {a : Nat} (h : a ≤ s.size) (hk : kd s a = 4) : pl s a = s.size ∧ sz s a = 0 ∧ to s a = s.size := by
  have e : suf s (pl s a) = [] := kind_end.1 hk
  have h1 := pl_le h
  have h2 : (suf s (pl s a)).length = 0 := by rw [e]; rfl
  rw [suf_length] at h2
  have h3 : sz s a = 0 := by unfold sz; rw [e]; rfl
  refine ⟨by omega, h3, ?_⟩
  unfold to
  omega
theorem grows {s : ByteArray} {a r : Nat} (hi : Inv s a r) (h0 : eC pB s a = 0) : r ≤ to s a := by
  by_cases h4 : kd s a = 4
  · rw [(kd_end hi.h4 h4).2.2]; exact hi.h3
  · have := to_gt (eC_kd h0) h4
    have := hi.h2
    omega

/-- Two new blocks: a token's and an error's. -/
theorem two_t (w : World) (cs ds : Array Value) (T U : TypeId) (j : Nat) : ((w.alloc (.cells cs T)).alloc (.cells ds U)).cell? ⟨w.heap.size, j, none⟩ = cs[j]? := by
  rw [← cell_new w cs T w.heap.size j rfl]
  exact World.cell?_of_block (Below.heap_alloc _ _ _ (by simp))
theorem two_e (w : World) (cs ds : Array Value) (T U : TypeId) (j : Nat) : ((w.alloc (.cells cs T)).alloc (.cells ds U)).cell? ⟨w.heap.size + 1, j, none⟩ = ds[j]? := cell_new _ _ _ _ _ (by simp)

section
variable (s : ByteArray) (w wr : World) (B a r n : Nat)

set_option maxHeartbeats 1000000 in
set_option maxRecDepth 4000 in
theorem lexReader_walk (hs : s.size ≤ reachBytes) (w : World) (hw : Lw w) :
    Calls Tryd.prog 6 #[.string s] w fun e w' => e = .returned (.bool true) ∧ On w w' := by
  have hs' : s.size ≤ 140737488351232 := hs
  have hN0 := new_is w s
  have hsz3 : 2 < w.heap.size := lt_of_var gTab hw.tab
  have hR0 : ∀ w1, Lx w1 w.heap.size s 0 0 → Calls Tryd.prog 14 #[.pointer (some ⟨w.heap.size, 0, none⟩)] w1 fun e w' => e = .returned (.int .i64 0) ∧ w' = w1 := fun w1 h => read_is w1 _ s 0 0 h
  clear hs
  go_enter Tryd.func6, Tryd.ntmps6
  go_wp2_with (first | (go_at_call 13; refine hN0.mono ?_; rintro e w1 ⟨rfl, hl1, hw1⟩) | (go_at_call 14; refine (hR0 _ hl1).mono ?_; rintro e w2 ⟨rfl, rfl⟩))
  clear hN0 hR0
  go_loopg [4, 5] (s.size + 1) (fun k v i wr => ∃ a r n : Nat, k = s.size + 1 - a ∧ v = .int .i64 r ∧ i = .int .i64 n ∧ n ≤ a ∧ Inv s a r ∧ Lx wr w.heap.size s a r ∧ On w wr)
  case atStart => exact ⟨0, 0, 0, rfl, rfl, rfl, Nat.le_refl _, ⟨Nat.le_refl _, by omega, Nat.zero_le _, Nat.zero_le _⟩, hl1, hw1⟩
  case round =>
    obtain ⟨a, r, n, hk, rfl, rfl, hna, hinv, hlx, hon⟩ := hrel
    have h4 := hinv.h4
    have h3 := hinv.h3
    have hbn : n ≤ s.size := by omega
    have hLw := hw.on hon
    have hN := fun w1 (h1 : Lx w1 w.heap.size s a r) (h2 : Lw w1) => next_is w1 w.heap.size s a r hs' hinv h1 (by omega) h2
    have hAw := fun w1 (h : Lw w1) => awake_any w1 h
    unfold tkV erV at hN
    clear hl1 hw1
    by_cases h0 : eC pB s a = 0
    · simp only [h0, if_true] at hN
      have hgr := grows hinv h0
      have hts : pl s a + (tx s a).size = to s a := by rw [tx_size h4]; rfl
      have HST : Hid (kd s a ≠ 4 → a < to s a) := fun h => to_gt (eC_kd h0) h
      have HTL : Hid (to s a ≤ s.size) := to_le h4
      have hbT : to s a ≤ 140737488351232 := Nat.le_trans HTL.out hs'
      obtain ⟨K, hKK⟩ : ∃ K, kd s a = K := ⟨_, rfl⟩
      obtain ⟨x, hx⟩ : ∃ x, tx s a = x := ⟨_, rfl⟩
      obtain ⟨p, hp⟩ : ∃ p, pl s a = p := ⟨_, rfl⟩
      obtain ⟨T, hT⟩ : ∃ T, to s a = T := ⟨_, rfl⟩
      simp only [hKK, hx, hp, hT] at hN HST HTL
      rw [hx, hp, hT] at hts
      rw [hT] at hgr hbT
      have hpb : p + x.size ≤ 140737488351232 := by omega
      have HTS : Hid (p + x.size = T) := hts
      clear hKK hx hp hT hts
      have hR : ∀ w1 r2, Lx w1 w.heap.size s T r2 → Calls Tryd.prog 14 #[.pointer (some ⟨w.heap.size, 0, none⟩)] w1 fun e w' => e = .returned (.int .i64 r2) ∧ w' = w1 := fun w1 r2 h => read_is w1 _ s T r2 h
      by_cases hk4 : K = 4
      · subst hk4
        go_wp2_with (first | (go_at_call 15; refine (hN _ hlx hLw).mono ?_; rintro e w2 ⟨rfl, hl2, _, hw2⟩; obtain ⟨r2, hi2, hl2⟩ := hl2 trivial; have hb2 := hl2.lt; have hl2' : Lx ((w2.alloc (.cells #[.int .i64 4, .string x, .int .i64 p] 34)).alloc (.cells #[.int .i64 0, .int .i64 0] 26)) w.heap.size s T r2 := (hl2.alloc _).alloc _; have hLw2' : Lw ((w2.alloc (.cells #[.int .i64 4, .string x, .int .i64 p] 34)).alloc (.cells #[.int .i64 0, .int .i64 0] 26)) := (hLw.wr hw2 (by omega)).on (((On.refl _).alloc _).alloc _); have j1 := hi2.h1; have j2 := hi2.h2; have j3 := hi2.h3; have j4 : r ≤ r2 := Nat.le_trans hgr j1; have j5 : p + x.size ≤ r2 := Nat.le_trans (Nat.le_of_eq HTS.out) j1; have j6 : r2 ≤ p + x.size + 1 := Nat.le_trans j2 (Nat.succ_le_succ (Nat.le_of_eq HTS.out.symm))) | (go_at_call 14; refine (hR _ r2 hl2').mono ?_; rintro e w4 ⟨rfl, rfl⟩) | (go_at_call 11; refine (hAw _ hLw2').mono ?_; rintro e w5 ⟨rfl, hw5⟩))
        go_ret
        exact ⟨rfl, (((hon.trans' hw2 (Nat.le_refl _)).alloc _).alloc _).trans hw5⟩
      · have hkb : ((K : Int) == 4) = false := by rw [beq_eq_false_iff_ne]; omega
        go_wp2_with (first | (go_at_call 15; refine (hN _ hlx hLw).mono ?_; rintro e w2 ⟨rfl, hl2, _, hw2⟩; obtain ⟨r2, hi2, hl2⟩ := hl2 trivial; have hb2 := hl2.lt; have hl2' : Lx ((w2.alloc (.cells #[.int .i64 K, .string x, .int .i64 p] 34)).alloc (.cells #[.int .i64 0, .int .i64 0] 26)) w.heap.size s T r2 := (hl2.alloc _).alloc _; have hLw2' : Lw ((w2.alloc (.cells #[.int .i64 K, .string x, .int .i64 p] 34)).alloc (.cells #[.int .i64 0, .int .i64 0] 26)) := (hLw.wr hw2 (by omega)).on (((On.refl _).alloc _).alloc _); have j1 := hi2.h1; have j2 := hi2.h2; have j3 := hi2.h3; have j4 : r ≤ r2 := Nat.le_trans hgr j1; have j5 : p + x.size ≤ r2 := Nat.le_trans (Nat.le_of_eq HTS.out) j1; have j6 : r2 ≤ p + x.size + 1 := Nat.le_trans j2 (Nat.succ_le_succ (Nat.le_of_eq HTS.out.symm))) | (go_at_call 14; refine (hR _ r2 hl2').mono ?_; rintro e w4 ⟨rfl, rfl⟩) | (go_at_call 11; refine (hAw _ hLw2').mono ?_; rintro e w5 ⟨rfl, hw5⟩))
        go_roundg (s.size + 1 - T)
        case measure => have := HST.out hk4; have := HTL.out; omega
        case rel => exact ⟨T, r2, n + 1, rfl, rfl, by go_num, by have := HST.out hk4; omega, hi2, hl2', ((hon.trans' hw2 (Nat.le_refl _)).alloc _).alloc _⟩
    · simp only [h0, if_false] at hN
      have hC : ((eC pB s a : Int) != 0) = true := by simp; omega
      obtain ⟨C, hCC⟩ : ∃ C, eC pB s a = C := ⟨_, rfl⟩
      obtain ⟨p, hp⟩ : ∃ p, pl s a = p := ⟨_, rfl⟩
      rw [hCC] at hC
      simp only [hCC, hp] at hN
      have hR : ∀ w1, Lx w1 w.heap.size s a r → Calls Tryd.prog 14 #[.pointer (some ⟨w.heap.size, 0, none⟩)] w1 fun e w' => e = .returned (.int .i64 r) ∧ w' = w1 := fun w1 h => read_is w1 _ s a r h
      have hC0 : C ≠ 0 := by omega
      clear hCC hp
      go_wp2_with (first | (go_at_call 15; refine (hN _ hl2' hLw2').mono ?_; rintro e w3 ⟨rfl, _, hl3, hw3⟩; have hl3 := hl3 hC0; have hl3' : Lx ((w3.alloc (.cells #[.int .i64 0, .string ⟨#[]⟩, .int .i64 0] 34)).alloc (.cells #[.int .i64 C, .int .i64 p] 26)) w.heap.size s a r := (hl3.alloc _).alloc _; have hLw3' : Lw ((w3.alloc (.cells #[.int .i64 0, .string ⟨#[]⟩, .int .i64 0] 34)).alloc (.cells #[.int .i64 C, .int .i64 p] 26)) := (hLw2'.wr hw3 (by omega)).on (((On.refl _).alloc _).alloc _); have d0 := hw3.cell q0 (by simp; omega); have d1 := hw3.cell q1 (by simp; omega); have hz3 : w2.heap.size + 1 < w3.heap.size := Nat.lt_of_lt_of_le (by simp) hw3.size; have hz3' := Nat.lt_succ_of_lt hz3) | (go_at_call 15; refine (hN _ hlx hLw).mono ?_; rintro e w2 ⟨rfl, _, hl2, hw2⟩; have hl2 := hl2 hC0; have hb2 := hl2.lt; have hl2' : Lx ((w2.alloc (.cells #[.int .i64 0, .string ⟨#[]⟩, .int .i64 0] 34)).alloc (.cells #[.int .i64 C, .int .i64 p] 26)) w.heap.size s a r := (hl2.alloc _).alloc _; have hLw2' : Lw ((w2.alloc (.cells #[.int .i64 0, .string ⟨#[]⟩, .int .i64 0] 34)).alloc (.cells #[.int .i64 C, .int .i64 p] 26)) := (hLw.wr hw2 (by omega)).on (((On.refl _).alloc _).alloc _); have q0 := two_e w2 #[.int .i64 0, .string ⟨#[]⟩, .int .i64 0] #[.int .i64 C, .int .i64 p] 34 26 0; have q1 := two_e w2 #[.int .i64 0, .string ⟨#[]⟩, .int .i64 0] #[.int .i64 C, .int .i64 p] 34 26 1) | (go_at_call 14; refine (hR _ hl3').mono ?_; rintro e w4 ⟨rfl, rfl⟩) | (go_at_call 14; refine (hR _ hl2').mono ?_; rintro e w4 ⟨rfl, rfl⟩) | (go_at_call 11; refine (hAw _ hLw3').mono ?_; rintro e w5 ⟨rfl, hw5⟩))
      go_ret
      exact ⟨rfl, (((((hon.trans' hw2 (Nat.le_refl _)).alloc _).alloc _).trans' hw3 (Nat.le_refl _)).alloc _).alloc _ |>.trans hw5⟩
end

set_option maxRecDepth 100000 in
theorem lexReader_lifted (os : Os) (started : os.Started) (H : Type) (enc : TypeId × Value → H) :
    ReturnsInHanded {} Tryd.checked os 6 .any (fun w args => (Rows.lexReaderSpec.pre enc Tryd.prog Tryd.f6 [] false w args ∧ laidMetH Tryd.prog laidL w) ∧ sizedMet enc Tryd.prog Tryd.f6 (OpenSpec.ofChange Rows.lexReaderSpec) false w args)
      (Rows.lexReaderSpec.post enc Tryd.prog Tryd.f6 false true false false) := by
  refine returnsInHanded_of_change_and (C := Tryd.checked) (X := fun w _ => laidMetH Tryd.prog laidL w) (fun _ _ _ hh h => h.of_heap hh) own started (by kernel_rfl) Tryd.func6
    (ChangeSpec.witness_shaped (enc := enc) (C := Tryd.checked) (os := os) (X := fun w _ => laidMetH Tryd.prog laidL w) false (World.doorLaid Tryd.prog 400 os) #[.string ⟨#[]⟩] 8 rfl (World.shaped_of_RefB (by kernel_rfl) (by kernel_rfl)) (by kernel_rfl) (by kernel_rfl) (by kernel_rfl) (door_met os _)) ?_
  intro W base args ds gs before hval0 hW _ hsz hL _
  have hval : ∀ (j : Nat) t v, Tryd.f6.params[j]? = some t → args[j]? = some v → Value.okWide Tryd.prog W .any base t v := hval0
  have hW' := hW
  obtain ⟨p, q, hA0, hV, rfl, hfz, hnd⟩ := hW
  have hA : DataW.TrodAll enc Tryd.prog W 0 (fun _ => true) true Tryd.f6.params.toList args.toList ds p := hA0
  rw [Tryd.params6] at hA hval
  obtain ⟨v0, d0, rfl, rfl, h0⟩ := trodAll_one hA
  obtain ⟨rfl, rfl⟩ := trodVars_none hV
  obtain ⟨s, rfl, rfl, rfl, ws⟩ := open_string Tryd.underlying9 (hval 0 9 v0 rfl rfl) h0
  have rs := sized_string hsz (j := 0) (t := 9) rfl rfl
  clear hA0 hval0
  simp only [List.append_nil] at hW'
  refine (lexReader_walk s rs W (of_laid hL)).mono fun e W' ⟨he, hw⟩ => ?_
  subst he
  refine ⟨_, rfl, _, _, _, [], [], [], hW', ?_, ?_, rfl, Below.frame hw _, fun h => by cases h⟩
  · exact trodAll_mk1 (shut_bool Tryd.underlying4 _)
  · exact trodAll_mk1 (shut_string Tryd.underlying9 ws)

theorem lexReader_said : Rows.LexReaderSaid :=
  OpenClaim.holds_of_wide 6 Tryd.f6 rfl rfl rfl rfl rfl rfl rfl ⟨rfl, rfl, rfl, rfl, rfl⟩ rfl rfl rfl rfl rfl (by kernel_rfl) Tryd.func6 (by kernel_rfl)
    (of_decide_eq_true (by kernel_rfl)) (by unfold Func.isWrapper; first | (rw [if_pos (by decide +kernel)]; kernel_rfl) | (rw [if_neg (by decide +kernel)]; exact ⟨rfl, rfl⟩))
    (fun os started H enc _ => lexReader_lifted os started H enc)

theorem lexReader_card : Rows.LexReaderCardSaid :=
  Claim7.holds_tied_plain_at .later [] [.data, .data, .data, .sentinel, .sentinel] true (true, "e778a03b216b4ff87b621aaa108ee97d2984d4c2323c08988875fd2d4addd431") true
    lexReader_said (fun _ h => by cases h) (by kernel_rfl) (fun _ h => by cases h) lexReader_row_tie rfl ⟨rfl, rfl⟩ (by kernel_rfl) rfl
    (fun f fn hf hfn => by
      obtain rfl : f = 6 := Option.some.inj ((show Tryd.prog.funcNamed "jacquard/jacquardlaw2.LexReader" = some 6 by kernel_rfl).symm.trans hf) |>.symm
      obtain rfl : fn = Tryd.f6 := (Option.some.inj (Tryd.func6.symm.trans hfn)).symm
      exact ⟨by kernel_rfl, fun j t ht => by
        rw [Tryd.params6] at ht
        have hm : t ∈ [9] := by simpa using Array.mem_of_getElem? ht
        have hall : ([9].all fun u => !Tryd.prog.wantsStandIn u) = true := by kernel_rfl
        exact (show Tryd.prog.wantsStandIn t = false by simpa using List.all_eq_true.1 hall t hm)⟩)
    (by kernel_rfl)
#print axioms lexReader_card

end Go.Proofs.YtoipapbdepobjaaDoor
