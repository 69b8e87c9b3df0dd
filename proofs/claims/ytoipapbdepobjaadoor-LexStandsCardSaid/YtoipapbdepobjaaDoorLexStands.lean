/- Proved: for every string the law LexStands of layer 2 returns true and leaves its argument as it was; the condition is that the listed package-level variables hold what the program's text lays, to which the card ties them. -/
import Derived.Test.YtoipapbdepobjaaDoorLexAwake
import Derived.Test.YtoipapbdepobjaaDoorLexStep
import Derived.Test.YtoipapbdepobjaaDoorLift2
import Derived.BigQuiet
namespace Go.Proofs.YtoipapbdepobjaaDoor
open Go.ChangeShapes Go.WideShapes Go.ChangeAt Go.WideMaps Go.WideElems Go.RowKit
open Go.ChangeMaps (open_string shut_string)

set_option maxHeartbeats 1000000 in
theorem lexStands_bad (s : ByteArray) (hs : s.size ≤ 140737488351232) (he : ecA s ≠ 0) (w : World) (hw : Lw w) :
    Calls Tryd.prog 8 #[.string s] w fun e w' => e = .returned (.bool true) ∧ On w w' := by
  have hp := ep_le s
  have hC : ((ecA s : Int) != 0) = true := by simp; omega
  have hA : Calls Tryd.prog 9 #[.string s] w fun e w' => ∃ ao cap, e = .returned (.tuple #[.slice ao 0 cap, .agg #[.int .i64 (ecA s), .int .i64 (epA s)]]) ∧ On w w' := by
    refine (all_is s hs w hw).mono ?_
    rintro e w' ⟨v, rfl, hT, hO⟩
    rw [ts_err he] at hT
    obtain ⟨ao, cap, rfl⟩ := hT.len
    exact ⟨ao, cap, rfl, hO⟩
  have hAw := fun w1 (h : Lw w1) => awake_any w1 h
  clear he
  go_enter Tryd.func8, Tryd.ntmps8
  go_wp2_with (first | (go_at_call 9; refine hA.mono ?_; rintro e w1 ⟨ao, cap, rfl, hO⟩; have hL1 : Lw (w1.alloc (.cells #[.int .i64 (ecA s), .int .i64 (epA s)] 26)) := hw.on (hO.alloc _)) | (go_at_call 11; refine (hAw _ hL1).mono ?_; rintro e w2 ⟨rfl, hw2⟩))
  go_ret
  exact ⟨rfl, (hO.alloc _).trans hw2⟩

set_option maxHeartbeats 1000000 in
set_option maxRecDepth 8000 in
theorem lexStands_ok (s : ByteArray) (hs : s.size ≤ 140737488351232) (he : ecA s = 0) (w : World) (hw : Lw w) :
    Calls Tryd.prog 8 #[.string s] w fun e w' => e = .returned (.bool true) ∧ On w w' := by
  obtain ⟨h4000, hal, hep⟩ := ts_ok he
  obtain ⟨ts, hts⟩ : ∃ ts, tsA s = ts := ⟨_, rfl⟩
  have hne := (al_ne (Nat.zero_le _) hal).1
  have hA : Calls Tryd.prog 9 #[.string s] w fun e w' => ∃ g cap : Nat, e = .returned (.tuple #[.slice (some ⟨g, 0, none⟩) ts.length cap, .agg #[.int .i64 0, .int .i64 0]]) ∧ g < w'.heap.size ∧ ts.length ≤ cap ∧ (∀ i u, (tksC ts)[i]? = some u → w'.cell? ⟨g, i, none⟩ = some u) ∧ On w w' := by
    refine (all_is s hs w hw).mono ?_
    rintro e w' ⟨v, rfl, hT, hO⟩
    rw [he, hep]
    obtain ⟨g, cap, rfl, h1, h2, h3⟩ := hT.some hne
    rw [hts] at h1 h3 ⊢
    exact ⟨g, cap, rfl, h2, h1, h3, hO⟩
  rw [hts] at hal hne
  have hcnt : ts.length ≤ 4001 := by
    have := al_count pB s s.size 0 (by omega) (Nat.zero_le _)
    rw [hal] at this
    simp only at this
    omega
  have hAw := fun w1 (h : Lw w1) => awake_any w1 h
  have HAL : Hid (al pB s 0 = (ts, 0, 0)) := hal
  clear he hal hep hts
  go_enter Tryd.func8, Tryd.ntmps8
  go_wp2_with (first | (go_at_call 9; refine hA.mono ?_; rintro e w1 ⟨g, cap, rfl, hg, hcap, hcell, hO⟩))
  go_loopg [5, 6] ts.length (fun k v i wr => ∃ a n : Nat, k = ts.length - n ∧ v = .int .i64 a ∧ i = .int .i64 n ∧ n ≤ ts.length ∧ a ≤ s.size ∧ (n < ts.length → al pB s a = (ts.drop n, 0, 0)) ∧ (n = ts.length → a = s.size) ∧ On w1 wr)
  case atStart => exact ⟨0, 0, rfl, rfl, rfl, Nat.zero_le _, Nat.zero_le _, fun _ => HAL.out, fun h => absurd (List.eq_nil_of_length_eq_zero h.symm) hne, (On.refl _).alloc _⟩
  case round =>
    obtain ⟨a, n, hk, rfl, rfl, hn, ha, hst, hend, hon⟩ := hrel
    by_cases hlt : n < ts.length
    · obtain ⟨he, hget, hk4, hnext, hto⟩ := walk_step hlt ha (hst hlt)
      obtain ⟨d0, d1, d2⟩ := cells_at hcell hg hon hget
      have hsz : (tx s a).size = sz s a := tx_size ha
      have hxx : s.extract (pl s a) (pl s a + (tx s a).size) = tx s a := by rw [hsz]; rfl
      have hT : pl s a + (tx s a).size = to s a := by rw [hsz]; rfl
      have hTs := to_le ha
      have hpa := pl_ge s a
      have hgp : a + gap false (suf s a) = pl s a := rfl
      simp only [tk] at d0 d1 d2
      obtain ⟨K, hKK⟩ : ∃ K, kd s a = K := ⟨_, rfl⟩
      obtain ⟨x, hx⟩ : ∃ x, tx s a = x := ⟨_, rfl⟩
      obtain ⟨p, hp⟩ : ∃ p, pl s a = p := ⟨_, rfl⟩
      obtain ⟨T, hTT⟩ : ∃ T, to s a = T := ⟨_, rfl⟩
      rw [hKK] at d0 hk4
      rw [hx] at d1 hxx hT
      rw [hp] at d2 hxx hT hpa hgp
      rw [hTT] at hT hnext hto hTs
      have hps : p + x.size ≤ s.size := by omega
      have HT : Hid (p + x.size = T) := hT
      have HN : Hid ((n + 1 < ts.length → al pB s T = (ts.drop (n + 1), 0, 0)) ∧ (n + 1 = ts.length → T = s.size)) := ⟨hnext, hto⟩
      have HG : Hid (a + gap false (suf s a) = p) := hgp
      have hbool : ((K : Int) == 4) = ((n : Int) == (ts.length : Int) - 1) := by
        rw [Bool.eq_iff_iff, beq_iff_eq, beq_iff_eq]
        omega
      clear hT hnext hto hgp hst hend hget hKK hx hp hTT he hsz hk4 hTs
      obtain ⟨bb, hbb⟩ : ∃ bb, ((n : Int) == (ts.length : Int) - 1) = bb := ⟨_, rfl⟩
      rw [hbb] at hbool
      have q0 : (wr.alloc (.cells #[.int .i64 K, .string x, .int .i64 p] 34)).cell? ⟨wr.heap.size, 0, none⟩ = some (.int .i64 K) := cell_new _ _ _ _ _ rfl
      have q1 : (wr.alloc (.cells #[.int .i64 K, .string x, .int .i64 p] 34)).cell? ⟨wr.heap.size, 1, none⟩ = some (.string x) := cell_new _ _ _ _ _ rfl
      have q2 : (wr.alloc (.cells #[.int .i64 K, .string x, .int .i64 p] 34)).cell? ⟨wr.heap.size, 2, none⟩ = some (.int .i64 p) := cell_new _ _ _ _ _ rfl
      have hon2 : On w1 (wr.alloc (.cells #[.int .i64 K, .string x, .int .i64 p] 34)) := hon.alloc _
      have HQ : Hid ((wr.alloc (.cells #[.int .i64 K, .string x, .int .i64 p] 34)).cell? ⟨wr.heap.size, 0, none⟩ = some (.int .i64 K) ∧ (wr.alloc (.cells #[.int .i64 K, .string x, .int .i64 p] 34)).cell? ⟨wr.heap.size, 1, none⟩ = some (.string x) ∧ (wr.alloc (.cells #[.int .i64 K, .string x, .int .i64 p] 34)).cell? ⟨wr.heap.size, 2, none⟩ = some (.int .i64 p)) := ⟨q0, q1, q2⟩
      clear q0 q1 q2
      go_wp2
      generalize wr.alloc (.cells #[.int .i64 K, .string x, .int .i64 p] 34) = W2 at *
      obtain ⟨q0, q1, q2⟩ := HQ.out
      have b1 : decide (p < a) = false := by simp; omega
      have b2 : decide ((s.size : Int) < (p : Int) + (x.size : Int)) = false := by simp; omega
      have b3 : IntKind.i64.wrap ((p : Int) + (x.size : Int)) = ((p + x.size : Nat) : Int) := by rw [IntKind.wrap_i64]; omega
      have b4 : IntKind.i64.wrap ((ts.length : Int) - 1) = (ts.length : Int) - 1 := by rw [IntKind.wrap_i64]; omega
      go_quiet (fail)
      have k1 : (W2.drewN nq).cell? ⟨wr.heap.size, 1, none⟩ = some (.string x) := q1
      have k2 : (W2.drewN nq).cell? ⟨wr.heap.size, 2, none⟩ = some (.int .i64 p) := q2
      have hon3 : On w1 (W2.drewN nq) := ⟨hon2.os, hon2.tape, hon2.output, hon2.size, hon2.block⟩
      generalize W2.drewN nq = W3 at *
      clear q0 q1 q2 HQ hon2 b1 b2 b3 b4 hbool hbb d0 d1 d2 hxx
      go_wp2
      go_loopg [8, 9] (p - a) (fun k bv iv wx => ∃ (b : Bool) (kk : Nat), k = p - kk ∧ bv = .bool b ∧ iv = .int .i64 kk ∧ a ≤ kk ∧ kk ≤ p ∧ kk + gap b (suf s kk) = p ∧ wx.cell? ⟨wr.heap.size, 1, none⟩ = some (.string x) ∧ wx.cell? ⟨wr.heap.size, 2, none⟩ = some (.int .i64 p) ∧ On w1 wx)
      case atStart => exact ⟨false, a, rfl, rfl, rfl, Nat.le_refl _, hpa, HG.out, k1, k2, hon3⟩
      case round =>
        obtain ⟨b, kk, hkk, rfl, rfl, hak, hkp, hgk, m1, m2, hox⟩ := hrel
        by_cases hkl : kk < p
        · have hks : kk < s.size := by omega
          obtain ⟨o1, o2⟩ := gap_step hks hkl hgk
          have hcN := bN_lt hks
          have HO : Hid ((kk + 1) + gap ((b && bN s kk != 10) || bN s kk == 35) (suf s (kk + 1)) = p) := o2
          obtain ⟨c, hc⟩ : ∃ c, (s[kk]'hks).toNat = c := ⟨_, rfl⟩
          rw [hcN, hc] at o1
          have HCN : Hid (bN s kk = c) := hcN.trans hc
          clear o2 hgk hcN
          rw [HCN.out] at HO
          by_cases h10 : c = 10
          · subst h10
            cases b
            · have HO : Hid ((kk + 1) + gap false (suf s (kk + 1)) = p) := HO
              go_wp2
              go_roundg (p - (kk + 1))
              case measure => omega
              case rel => exact ⟨false, kk + 1, rfl, rfl, by go_num, by omega, by omega, HO.out, m1, m2, hox⟩
            · have HO : Hid ((kk + 1) + gap false (suf s (kk + 1)) = p) := HO
              go_wp2
              go_roundg (p - (kk + 1))
              case measure => omega
              case rel => exact ⟨false, kk + 1, rfl, rfl, by go_num, by omega, by omega, HO.out, m1, m2, hox⟩
          · cases b
            · by_cases h35 : c = 35
              · subst h35
                have HO : Hid ((kk + 1) + gap true (suf s (kk + 1)) = p) := HO
                go_wp2
                go_roundg (p - (kk + 1))
                case measure => omega
                case rel => exact ⟨true, kk + 1, rfl, rfl, by go_num, by omega, by omega, HO.out, m1, m2, hox⟩
              · have h29 : c = 32 ∨ c = 9 := by
                  rcases o1 with h | h | h
                  · cases h
                  · exact absurd h h35
                  · simp only [blN, Bool.or_eq_true, beq_iff_eq] at h
                    omega
                rcases h29 with h | h
                · subst h
                  have HO : Hid ((kk + 1) + gap false (suf s (kk + 1)) = p) := HO
                  go_wp2
                  go_roundg (p - (kk + 1))
                  case measure => omega
                  case rel => exact ⟨false, kk + 1, rfl, rfl, by go_num, by omega, by omega, HO.out, m1, m2, hox⟩
                · subst h
                  have HO : Hid ((kk + 1) + gap false (suf s (kk + 1)) = p) := HO
                  go_wp2
                  go_roundg (p - (kk + 1))
                  case measure => omega
                  case rel => exact ⟨false, kk + 1, rfl, rfl, by go_num, by omega, by omega, HO.out, m1, m2, hox⟩
            · have e : ((true && c != 10) || c == 35) = true := by
                have : (c != 10) = true := by simpa using h10
                rw [this]; rfl
              rw [e] at HO
              have hcb : ((c : Int) == 10) = false := by rw [beq_eq_false_iff_ne]; omega
              go_wp2
              go_roundg (p - (kk + 1))
              case measure => omega
              case rel => exact ⟨true, kk + 1, rfl, rfl, by go_num, by omega, by omega, HO.out, m1, m2, hox⟩
        · have hTl : p + x.size = T := HT.out
          have HT' := HT
          go_wp2
          go_roundg (ts.length - (n + 1))
          case measure => omega
          case rel => exact ⟨T, n + 1, rfl, by rw [← HT'.out]; go_num, by go_num, by omega, by have := HT'.out; omega, fun h => HN.out.1 h, fun h => HN.out.2 h, hox⟩
    · have hnn : n = ts.length := by omega
      have hae := hend hnn
      subst hae
      go_wp2_with (go_at_call 11; refine (hAw _ (hw.on (hO.trans hon))).mono ?_; rintro e w2 ⟨rfl, hw2⟩)
      go_ret
      exact ⟨rfl, (hO.trans hon).trans hw2⟩

theorem lexStands_walk (s : ByteArray) (hs : s.size ≤ reachBytes) (w : World) (hw : Lw w) :
    Calls Tryd.prog 8 #[.string s] w fun e w' => e = .returned (.bool true) ∧ On w w' := by
  by_cases he : ecA s = 0
  · exact lexStands_ok s hs he w hw
  · exact lexStands_bad s hs he w hw

set_option maxRecDepth 100000 in
theorem lexStands_lifted (os : Os) (started : os.Started) (H : Type) (enc : TypeId × Value → H) :
    ReturnsInHanded {} Tryd.checked os 8 .any (fun w args => (Rows.lexStandsSpec.pre enc Tryd.prog Tryd.f8 [] false w args ∧ laidMetH Tryd.prog laidL w) ∧ sizedMet enc Tryd.prog Tryd.f8 (OpenSpec.ofChange Rows.lexStandsSpec) false w args)
      (Rows.lexStandsSpec.post enc Tryd.prog Tryd.f8 false true false false) := by
  refine returnsInHanded_of_change_and (C := Tryd.checked) (X := fun w _ => laidMetH Tryd.prog laidL w) (fun _ _ _ hh h => h.of_heap hh) own started (by kernel_rfl) Tryd.func8
    (ChangeSpec.witness_shaped (enc := enc) (C := Tryd.checked) (os := os) (X := fun w _ => laidMetH Tryd.prog laidL w) false (World.doorLaid Tryd.prog 400 os) #[.string ⟨#[]⟩] 8 rfl (World.shaped_of_RefB (by kernel_rfl) (by kernel_rfl)) (by kernel_rfl) (by kernel_rfl) (by kernel_rfl) (door_met os _)) ?_
  intro W base args ds gs before hval0 hW _ hsz hL _
  have hval : ∀ (j : Nat) t v, Tryd.f8.params[j]? = some t → args[j]? = some v → Value.okWide Tryd.prog W .any base t v := hval0
  have hW' := hW
  obtain ⟨p, q, hA0, hV, rfl, hfz, hnd⟩ := hW
  have hA : DataW.TrodAll enc Tryd.prog W 0 (fun _ => true) true Tryd.f8.params.toList args.toList ds p := hA0
  rw [Tryd.params8] at hA hval
  obtain ⟨v0, d0, rfl, rfl, h0⟩ := trodAll_one hA
  obtain ⟨rfl, rfl⟩ := trodVars_none hV
  obtain ⟨s, rfl, rfl, rfl, ws⟩ := open_string Tryd.underlying9 (hval 0 9 v0 rfl rfl) h0
  have rs := sized_string hsz (j := 0) (t := 9) rfl rfl
  clear hA0 hval0
  simp only [List.append_nil] at hW'
  refine (lexStands_walk s rs W (of_laid hL)).mono fun e W' ⟨he, hw⟩ => ?_
  subst he
  refine ⟨_, rfl, _, _, _, [], [], [], hW', ?_, ?_, rfl, Below.frame hw _, fun h => by cases h⟩
  · exact trodAll_mk1 (shut_bool Tryd.underlying4 _)
  · exact trodAll_mk1 (shut_string Tryd.underlying9 ws)

theorem lexStands_said : Rows.LexStandsSaid :=
  OpenClaim.holds_of_wide 8 Tryd.f8 rfl rfl rfl rfl rfl rfl rfl ⟨rfl, rfl, rfl, rfl, rfl⟩ rfl rfl rfl rfl rfl (by kernel_rfl) Tryd.func8 (by kernel_rfl)
    (of_decide_eq_true (by kernel_rfl)) (by unfold Func.isWrapper; first | (rw [if_pos (by decide +kernel)]; kernel_rfl) | (rw [if_neg (by decide +kernel)]; exact ⟨rfl, rfl⟩))
    (fun os started H enc _ => lexStands_lifted os started H enc)

theorem lexStands_card : Rows.LexStandsCardSaid :=
  Claim7.holds_tied_plain_at .later [] [.data, .data, .data, .sentinel, .sentinel] true (true, "e778a03b216b4ff87b621aaa108ee97d2984d4c2323c08988875fd2d4addd431") true
    lexStands_said (fun _ h => by cases h) (by kernel_rfl) (fun _ h => by cases h) lexStands_row_tie rfl ⟨rfl, rfl⟩ (by kernel_rfl) rfl
    (fun f fn hf hfn => by
      obtain rfl : f = 8 := Option.some.inj ((show Tryd.prog.funcNamed "jacquard/jacquardlaw2.LexStands" = some 8 by kernel_rfl).symm.trans hf) |>.symm
      obtain rfl : fn = Tryd.f8 := (Option.some.inj (Tryd.func8.symm.trans hfn)).symm
      exact ⟨by kernel_rfl, fun j t ht => by
        rw [Tryd.params8] at ht
        have hm : t ∈ [9] := by simpa using Array.mem_of_getElem? ht
        have hall : ([9].all fun u => !Tryd.prog.wantsStandIn u) = true := by kernel_rfl
        exact (show Tryd.prog.wantsStandIn t = false by simpa using List.all_eq_true.1 hall t hm)⟩)
    (by kernel_rfl)
#print axioms lexStands_card

end Go.Proofs.YtoipapbdepobjaaDoor
