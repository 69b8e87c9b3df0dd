/- Proved: for every string and every int the law LexJoins of layer 2 returns true and leaves its arguments as they were; the condition is that the listed package-level variables hold what the program's text lays, to which the card ties them. -/
import Derived.Test.YtoipapbdepobjabDoorLexAwake
import Derived.Test.YtoipapbdepobjabDoorLexStep
import Derived.Test.YtoipapbdepobjabDoorLift2
import Derived.BigQuiet
namespace Go.Proofs.YtoipapbdepobjabDoor
open Go.ChangeShapes Go.WideShapes Go.ChangeAt Go.WideMaps Go.WideElems Go.RowKit
open Go.ChangeMaps (open_string shut_string)

theorem i64_and15 (n : Int) : bits .and .i64 n 15 = n % 16 := by
  have h63 : (BitVec.ofInt 64 15).toNat = 2 ^ 4 - 1 := by decide
  have key : (BitVec.ofInt 64 n &&& BitVec.ofInt 64 15).toNat = (n % ((2 ^ 64 : Nat) : Int)).toNat % 2 ^ 4 := by
    rw [BitVec.toNat_and, BitVec.toNat_ofInt, h63, Nat.and_two_pow_sub_one_eq_mod]
  show IntKind.i64.wrap ((BitVec.ofInt 64 n &&& BitVec.ofInt 64 15).toNat : Nat) = n % 16
  rw [key, IntKind.wrap_i64]
  omega
theorem i64_and3 (n : Int) : bits .and .i64 n 3 = n % 4 := by
  have h63 : (BitVec.ofInt 64 3).toNat = 2 ^ 2 - 1 := by decide
  have key : (BitVec.ofInt 64 n &&& BitVec.ofInt 64 3).toNat = (n % ((2 ^ 64 : Nat) : Int)).toNat % 2 ^ 2 := by
    rw [BitVec.toNat_and, BitVec.toNat_ofInt, h63, Nat.and_two_pow_sub_one_eq_mod]
  show IntKind.i64.wrap ((BitVec.ofInt 64 n &&& BitVec.ofInt 64 3).toNat : Nat) = n % 4
  rw [key, IntKind.wrap_i64]
  omega

theorem joined_snoc (t : Tk) (p : List UInt8) : ∀ (l : List Tk) (ps : List (List UInt8)), l.length = ps.length → joined (l ++ [t]) (ps ++ [p]) = joined l ps ++ (t.x.data.toList ++ p)
  | [], [], _ => by simp [joined]
  | u :: l, q :: ps, h => by
    show joined (u :: (l ++ [t])) (q :: (ps ++ [p])) = _
    rw [joined_cons, joined_cons, joined_snoc t p l ps (by simpa using h)]
    simp
theorem al_sizes (good : ByteArray → Bool) (s : ByteArray) : ∀ (n a : Nat), s.size - a ≤ n → a ≤ s.size → ∀ t ∈ (al good s a).1, t.x.size ≤ s.size := by
  have one : ∀ a, a ≤ s.size → (tk s a).x.size ≤ s.size := by
    intro a ha
    have h1 := tx_size ha
    have h2 := to_le ha
    unfold to at h2
    show (tx s a).size ≤ s.size
    omega
  intro n
  induction n with
  | zero =>
    intro a hn ha
    by_cases he : eC good s a = 0
    · by_cases h4 : kd s a = 4
      · rw [al_end ha he h4]
        intro t ht
        obtain rfl : t = tk s a := by simpa using ht
        exact one a ha
      · have h1 := to_gt (eC_kd he) h4
        have h2 := to_le ha
        omega
    · rw [al_err ha he]; simp
  | succ n ih =>
    intro a hn ha
    by_cases he : eC good s a = 0
    · by_cases h4 : kd s a = 4
      · rw [al_end ha he h4]
        intro t ht
        obtain rfl : t = tk s a := by simpa using ht
        exact one a ha
      · have h1 := to_gt (eC_kd he) h4
        have h2 := to_le ha
        rw [al_step ha he h4]
        intro t ht
        rcases List.mem_cons.1 ht with rfl | ht
        · exact one a ha
        · exact ih (to s a) (by omega) h2 t ht
    · rw [al_err ha he]; simp

set_option maxHeartbeats 1000000 in
theorem joins_bad (s : ByteArray) (how : Int) (hs : s.size ≤ 140737488351232) (he : ecA s ≠ 0) (w : World) (hw : Lw w) :
    Calls Tryd.prog 3 #[.string s, .int .i64 how] w fun e w' => e = .returned (.bool true) ∧ On w w' := by
  have hC : ((ecA s : Int) != 0) = true := by simp; omega
  have hA : Calls Tryd.prog 5 #[.string s] w fun e w' => ∃ ao cap, e = .returned (.tuple #[.slice ao 0 cap, .agg #[.int .i64 (ecA s), .int .i64 (epA s)]]) ∧ On w w' := by
    refine (all_is s hs w hw).mono ?_
    rintro e w' ⟨v, rfl, hT, hO⟩
    rw [ts_err he] at hT
    obtain ⟨ao, cap, rfl⟩ := hT.len
    exact ⟨ao, cap, rfl, hO⟩
  have hAw := fun w1 (h : Lw w1) => awake_any w1 h
  clear he
  go_enter Tryd.func3, Tryd.ntmps3
  go_wp2_with (first | (go_at_call 5; refine hA.mono ?_; rintro e w1 ⟨ao, cap, rfl, hO⟩; have hL1 : Lw (w1.alloc (.cells #[.int .i64 (ecA s), .int .i64 (epA s)] 25)) := hw.on (hO.alloc _)) | (go_at_call 6; refine (hAw _ hL1).mono ?_; rintro e w2 ⟨rfl, hw2⟩))
  go_ret
  exact ⟨rfl, (hO.alloc _).trans hw2⟩

set_option maxHeartbeats 1000000 in
theorem joins_many (s : ByteArray) (how : Int) (hs : s.size ≤ 140737488351232) (he : ecA s = 0) (hlen : 500 < (tsA s).length) (w : World) (hw : Lw w) :
    Calls Tryd.prog 3 #[.string s, .int .i64 how] w fun e w' => e = .returned (.bool true) ∧ On w w' := by
  have hA : Calls Tryd.prog 5 #[.string s] w fun e w' => ∃ ao cap, e = .returned (.tuple #[.slice ao (tsA s).length cap, .agg #[.int .i64 0, .int .i64 0]]) ∧ On w w' := by
    refine (all_is s hs w hw).mono ?_
    rintro e w' ⟨v, rfl, hT, hO⟩
    rw [he, (ts_ok he).2.2]
    obtain ⟨ao, cap, rfl⟩ := hT.len
    exact ⟨ao, cap, rfl, hO⟩
  have hAw := fun w1 (h : Lw w1) => awake_any w1 h
  clear he
  go_enter Tryd.func3, Tryd.ntmps3
  go_wp2_with (first | (go_at_call 5; refine hA.mono ?_; rintro e w1 ⟨ao, cap, rfl, hO⟩; have hL1 : Lw (w1.alloc (.cells #[.int .i64 0, .int .i64 0] 25)) := hw.on (hO.alloc _)) | (go_at_call 6; refine (hAw _ hL1).mono ?_; rintro e w2 ⟨rfl, hw2⟩))
  go_ret
  exact ⟨rfl, (hO.alloc _).trans hw2⟩

set_option maxHeartbeats 1000000 in
set_option maxRecDepth 8000 in
theorem joins_ok (s : ByteArray) (how : Int) (hs : s.size ≤ 140737488351232) (he : ecA s = 0) (hlen : (tsA s).length ≤ 500) (w : World) (hw : Lw w) :
    Calls Tryd.prog 3 #[.string s, .int .i64 how] w fun e w' => e = .returned (.bool true) ∧ On w w' := by
  obtain ⟨h4000, hal, hep⟩ := ts_ok he
  obtain ⟨ts, hts⟩ : ∃ ts, tsA s = ts := ⟨_, rfl⟩
  have hne := (al_ne (Nat.zero_le _) hal).1
  have hA : Calls Tryd.prog 5 #[.string s] w fun e w' => ∃ g cap : Nat, e = .returned (.tuple #[.slice (some ⟨g, 0, none⟩) ts.length cap, .agg #[.int .i64 0, .int .i64 0]]) ∧ g < w'.heap.size ∧ ts.length ≤ cap ∧ (∀ i u, (tksC ts)[i]? = some u → w'.cell? ⟨g, i, none⟩ = some u) ∧ On w w' := by
    refine (all_is s hs w hw).mono ?_
    rintro e w' ⟨v, rfl, hT, hO⟩
    rw [he, hep]
    obtain ⟨g, cap, rfl, h1, h2, h3⟩ := hT.some hne
    rw [hts] at h1 h3 ⊢
    exact ⟨g, cap, rfl, h2, h1, h3, hO⟩
  have hsizes := al_sizes pB s s.size 0 (by omega) (Nat.zero_le _)
  rw [hts] at hal hne hlen
  rw [hal] at hsizes
  have HSZ : Hid (∀ t ∈ ts, t.x.size ≤ s.size) := hsizes
  have hAw := fun w1 (h : Lw w1) => awake_any w1 h
  have HAL : Hid (al pB s 0 = (ts, 0, 0)) := hal
  clear he hal hep hts hsizes
  go_enter Tryd.func3, Tryd.ntmps3
  go_wp2_with (first | (go_at_call 5; refine hA.mono ?_; rintro e w1 ⟨g, cap, rfl, hg, hcap, hcell, hO⟩))
  go_loopg [7, 8] ts.length (fun k v i wr => ∃ (n : Nat) (S : ByteArray) (ps : List (List UInt8)), k = ts.length - n ∧ v = .string S ∧ i = .int .i64 n ∧ n ≤ ts.length ∧ ps.length = n ∧ (∀ p ∈ ps, Sep p) ∧ S.data.toList = joined (ts.take n) ps ∧ S.size ≤ n * 4005 ∧ On w1 wr)
  case atStart => exact ⟨0, ⟨#[]⟩, [], rfl, rfl, rfl, Nat.zero_le _, rfl, fun _ h => (by cases h), rfl, Nat.le_refl _, (On.refl _).alloc _⟩
  case round =>
    obtain ⟨n, S, ps, hk, rfl, rfl, hn, hpl, hsep, hS, hSz, hon⟩ := hrel
    by_cases hlt : n < ts.length
    · obtain ⟨t, ht⟩ : ∃ t, ts[n]? = some t := ⟨_, List.getElem?_eq_getElem hlt⟩
      obtain ⟨d0, d1, d2⟩ := cells_at hcell hg hon ht
      have htx : t.x.size ≤ 4000 := Nat.le_trans (HSZ.out t (List.mem_of_getElem? ht)) h4000
      have HS : Hid (S.data.toList = joined (ts.take n) ps) := hS
      clear hS
      have hsum1 : S.size + t.x.size ≤ 4000000 := by omega
      have hb15 : bits .and .i64 (n : Int) 15 = ((n % 16 : Nat) : Int) := by rw [i64_and15]; omega
      have hgr : g < wr.heap.size := Nat.lt_of_lt_of_le hg hon.size
      have HT : Hid (ts[n]? = some t) := ht
      clear ht
      have hM4 : bits .and .i64 (wrap64 (how / 2 ^ (n % 16) + (n : Int))) 3 = 0 ∨ bits .and .i64 (wrap64 (how / 2 ^ (n % 16) + (n : Int))) 3 = 1 ∨ bits .and .i64 (wrap64 (how / 2 ^ (n % 16) + (n : Int))) 3 = 2 ∨ bits .and .i64 (wrap64 (how / 2 ^ (n % 16) + (n : Int))) 3 = 3 := by
        rw [i64_and3]; omega
      rcases hM4 with hM | hM | hM | hM
      · have hsep' : Sep [32] := Or.inl rfl
        go_wp2
        go_region
        all_goals (try go_wp2)
        go_roundg (ts.length - (n + 1))
        case measure => omega
        case rel =>
          refine ⟨n + 1, _, ps ++ [[32]], rfl, rfl, by go_num, by omega, by simp [hpl], fun q hq => ?_, ?_, ?_, ?_⟩
          · rcases List.mem_append.1 hq with h | h
            · exact hsep q h
            · obtain rfl : q = [32] := by simpa using h
              exact hsep'
          · rw [List.take_succ_eq_append_getElem hlt, joined_snoc _ _ _ _ (by simp [hpl]; omega), list_append, list_append, HS.out]
            have e : ts[n] = t := Option.some.inj ((List.getElem?_eq_getElem hlt).symm.trans HT.out)
            rw [e]
            simp
          · simp only [ByteArray.size_append]
            have : (ByteArray.mk #[32]).size ≤ 5 := by decide
            omega
          · exact (hon.alloc _).drew
      · have hsep' : Sep [9] := Or.inr (Or.inl rfl)
        go_wp2
        go_region
        all_goals (try go_wp2)
        go_roundg (ts.length - (n + 1))
        case measure => omega
        case rel =>
          refine ⟨n + 1, _, ps ++ [[9]], rfl, rfl, by go_num, by omega, by simp [hpl], fun q hq => ?_, ?_, ?_, ?_⟩
          · rcases List.mem_append.1 hq with h | h
            · exact hsep q h
            · obtain rfl : q = [9] := by simpa using h
              exact hsep'
          · rw [List.take_succ_eq_append_getElem hlt, joined_snoc _ _ _ _ (by simp [hpl]; omega), list_append, list_append, HS.out]
            have e : ts[n] = t := Option.some.inj ((List.getElem?_eq_getElem hlt).symm.trans HT.out)
            rw [e]
            simp
          · simp only [ByteArray.size_append]
            have : (ByteArray.mk #[9]).size ≤ 5 := by decide
            omega
          · exact (hon.alloc _).drew
      · have hsep' : Sep [10] := Or.inr (Or.inr (Or.inl rfl))
        go_wp2
        go_region
        all_goals (try go_wp2)
        go_roundg (ts.length - (n + 1))
        case measure => omega
        case rel =>
          refine ⟨n + 1, _, ps ++ [[10]], rfl, rfl, by go_num, by omega, by simp [hpl], fun q hq => ?_, ?_, ?_, ?_⟩
          · rcases List.mem_append.1 hq with h | h
            · exact hsep q h
            · obtain rfl : q = [10] := by simpa using h
              exact hsep'
          · rw [List.take_succ_eq_append_getElem hlt, joined_snoc _ _ _ _ (by simp [hpl]; omega), list_append, list_append, HS.out]
            have e : ts[n] = t := Option.some.inj ((List.getElem?_eq_getElem hlt).symm.trans HT.out)
            rw [e]
            simp
          · simp only [ByteArray.size_append]
            have : (ByteArray.mk #[10]).size ≤ 5 := by decide
            omega
          · exact (hon.alloc _).drew
      · have hsep' : Sep [32, 35, 32, 110, 10] := Or.inr (Or.inr (Or.inr rfl))
        go_wp2
        go_region
        all_goals (try go_wp2)
        go_roundg (ts.length - (n + 1))
        case measure => omega
        case rel =>
          refine ⟨n + 1, _, ps ++ [[32, 35, 32, 110, 10]], rfl, rfl, by go_num, by omega, by simp [hpl], fun q hq => ?_, ?_, ?_, ?_⟩
          · rcases List.mem_append.1 hq with h | h
            · exact hsep q h
            · obtain rfl : q = [32, 35, 32, 110, 10] := by simpa using h
              exact hsep'
          · rw [List.take_succ_eq_append_getElem hlt, joined_snoc _ _ _ _ (by simp [hpl]; omega), list_append, list_append, HS.out]
            have e : ts[n] = t := Option.some.inj ((List.getElem?_eq_getElem hlt).symm.trans HT.out)
            rw [e]
            simp
          · simp only [ByteArray.size_append]
            have : (ByteArray.mk #[32, 35, 32, 110, 10]).size ≤ 5 := by decide
            omega
          · exact (hon.alloc _).drew
    · have hnn : n = ts.length := by omega
      subst hnn
      rw [List.take_length] at hS
      have hLr := hw.on (hO.trans hon)
      by_cases h4 : 4000 < S.size
      · have h4' : (4000 : Int) < S.size := by omega
        clear hS
        go_wp2_with (go_at_call 6; refine (hAw _ hLr).mono ?_; rintro e w2 ⟨rfl, hw2⟩)
        go_ret
        exact ⟨rfl, (hO.trans hon).trans hw2⟩
      · obtain ⟨us, hus, hmap⟩ := joins pB s S s.size 0 (by omega) (Nat.zero_le _) ts HAL.out ps hpl hsep [] (Or.inl rfl) 0 (Nat.zero_le _) (by unfold suf; rw [hS]; rfl)
        have hul : us.length = ts.length := by simpa using congrArg List.length hmap
        have hS4 : ¬ 4000 < S.size := h4
        have hA2 : Calls Tryd.prog 5 #[.string S] wr fun e w' => ∃ g cap : Nat, e = .returned (.tuple #[.slice (some ⟨g, 0, none⟩) ts.length cap, .agg #[.int .i64 0, .int .i64 0]]) ∧ g < w'.heap.size ∧ ts.length ≤ cap ∧ (∀ i u, (tksC us)[i]? = some u → w'.cell? ⟨g, i, none⟩ = some u) ∧ On wr w' := by
          refine (all_is S (by omega) wr hLr).mono ?_
          rintro e w' ⟨v, rfl, hT, hO'⟩
          have a1 : tsA S = us := by unfold tsA tsS; rw [if_neg hS4, hus]; rfl
          have a2 : ecA S = 0 := by unfold ecA ecS; rw [if_neg hS4, hus]
          have a3 : epA S = 0 := by unfold epA epS; rw [if_neg hS4, hus]
          rw [a1] at hT
          rw [a2, a3]
          obtain ⟨g, cap, rfl, h1, h2, h3⟩ := hT.some (al_ne (Nat.zero_le _) hus).1
          rw [hul] at h1 ⊢
          exact ⟨g, cap, rfl, h2, h1, h3, hO'⟩
        have HMAP : Hid (us.map (fun u => (u.k, u.x)) = ts.map (fun u => (u.k, u.x))) := hmap
        clear hS hus hmap hul
        go_wp2_with (go_at_call 5; refine hA2.mono ?_; rintro e w2 ⟨g2, cap2, rfl, hg2, hcap2, hcell2, hO2⟩)
        go_loopg [11] ts.length (fun k i wx => ∃ n : Nat, k = ts.length - n ∧ i = .int .i64 n ∧ n ≤ ts.length ∧ On w2 wx)
        case atStart => exact ⟨0, rfl, rfl, Nat.zero_le _, (On.refl _).alloc _⟩
        case round =>
          obtain ⟨n, hk', rfl, hn', hox⟩ := hrel
          by_cases hlt' : n < ts.length
          · obtain ⟨t, ht⟩ : ∃ t, ts[n]? = some t := ⟨_, List.getElem?_eq_getElem hlt'⟩
            have hm := congrArg (·[n]?) HMAP.out
            simp only [List.getElem?_map, ht, Option.map_some, Option.map_eq_some_iff, Prod.mk.injEq] at hm
            obtain ⟨u, hu, hu1, hu2⟩ := hm
            obtain ⟨d0, d1, _⟩ := cells_at hcell hg (hon.trans (hO2.trans hox)) ht
            obtain ⟨c0, c1, _⟩ := cells_at hcell2 hg2 hox hu
            rw [hu1] at c0
            rw [hu2] at c1
            clear hu1 hu2 ht hu
            go_wp2
            go_quiet (fail)
            go_wp2
            go_roundg (ts.length - (n + 1))
            case measure => omega
            case rel => exact ⟨n + 1, rfl, by go_num, by omega, ⟨hox.os, hox.tape, hox.output, hox.size, hox.block⟩⟩
          · go_wp2_with (go_at_call 6; refine (hAw _ (hLr.on (hO2.trans hox))).mono ?_; rintro e w3 ⟨rfl, hw3⟩)
            go_ret
            exact ⟨rfl, (hO.trans (hon.trans (hO2.trans hox))).trans hw3⟩

theorem lexJoins_walk (s : ByteArray) (how : Int) (hs : s.size ≤ reachBytes) (w : World) (hw : Lw w) :
    Calls Tryd.prog 3 #[.string s, .int .i64 how] w fun e w' => e = .returned (.bool true) ∧ On w w' := by
  by_cases he : ecA s = 0
  · by_cases hl : 500 < (tsA s).length
    · exact joins_many s how hs he hl w hw
    · exact joins_ok s how hs he (by omega) w hw
  · exact joins_bad s how hs he w hw

set_option maxRecDepth 100000 in
theorem lexJoins_lifted (os : Os) (started : os.Started) (H : Type) (enc : TypeId × Value → H) :
    ReturnsInHanded {} Tryd.checked os 3 .any (fun w args => (Rows.lexJoinsSpec.pre enc Tryd.prog Tryd.f3 [] false w args ∧ laidMetH Tryd.prog laidL w) ∧ sizedMet enc Tryd.prog Tryd.f3 (OpenSpec.ofChange Rows.lexJoinsSpec) false w args)
      (Rows.lexJoinsSpec.post enc Tryd.prog Tryd.f3 false true false false) := by
  refine returnsInHanded_of_change_and (C := Tryd.checked) (X := fun w _ => laidMetH Tryd.prog laidL w) (fun _ _ _ hh h => h.of_heap hh) own started (by kernel_rfl) Tryd.func3
    (ChangeSpec.witness_shaped (enc := enc) (C := Tryd.checked) (os := os) (X := fun w _ => laidMetH Tryd.prog laidL w) false (World.doorLaid Tryd.prog 400 os) #[.string ⟨#[]⟩, .int .i64 0] 8 rfl (World.shaped_of_RefB (by kernel_rfl) (by kernel_rfl)) (by kernel_rfl) (by kernel_rfl) (by kernel_rfl) (door_met os _)) ?_
  intro W base args ds gs before hval0 hW _ hsz hL _
  have hval : ∀ (j : Nat) t v, Tryd.f3.params[j]? = some t → args[j]? = some v → Value.okWide Tryd.prog W .any base t v := hval0
  have hW' := hW
  obtain ⟨p, q, hA0, hV, rfl, hfz, hnd⟩ := hW
  have hA : DataW.TrodAll enc Tryd.prog W 0 (fun _ => true) true Tryd.f3.params.toList args.toList ds p := hA0
  rw [Tryd.params3] at hA hval
  obtain ⟨v0, v1, d0, d1, p0, p1, rfl, rfl, rfl, h0, h1⟩ := trodAll_two hA
  obtain ⟨rfl, rfl⟩ := trodVars_none hV
  obtain ⟨s, rfl, rfl, rfl, ws⟩ := open_string Tryd.underlying9 (hval 0 9 v0 rfl rfl) h0
  have rs := sized_string hsz (j := 0) (t := 9) rfl rfl
  obtain ⟨how, rfl, rfl, rfl, whow⟩ := open_int Tryd.underlying3 (hval 1 3 v1 rfl rfl) h1
  obtain ⟨how0, how1⟩ := bd whow
  clear hA0 hval0
  simp only [List.append_nil] at hW'
  refine (lexJoins_walk s how rs W (of_laid hL)).mono fun e W' ⟨he, hw⟩ => ?_
  subst he
  refine ⟨_, rfl, _, _, _, [], [], [], hW', ?_, ?_, rfl, Below.frame hw _, fun h => by cases h⟩
  · exact trodAll_mk1 (shut_bool Tryd.underlying4 _)
  · exact trodAll_mk2 (shut_string Tryd.underlying9 ws) (shut_int Tryd.underlying3 whow)

theorem lexJoins_said : Rows.LexJoinsSaid :=
  OpenClaim.holds_of_wide 3 Tryd.f3 rfl rfl rfl rfl rfl rfl rfl ⟨rfl, rfl, rfl, rfl, rfl⟩ rfl rfl rfl rfl rfl (by kernel_rfl) Tryd.func3 (by kernel_rfl)
    (of_decide_eq_true (by kernel_rfl)) (by unfold Func.isWrapper; first | (rw [if_pos (by decide +kernel)]; kernel_rfl) | (rw [if_neg (by decide +kernel)]; exact ⟨rfl, rfl⟩))
    (fun os started H enc _ => lexJoins_lifted os started H enc)

theorem lexJoins_card : Rows.LexJoinsCardSaid :=
  Claim7.holds_tied_plain_at .later [] [.data, .data, .data, .sentinel, .sentinel] true (true, "f3e856ae91a836c0e664ecad47f984a19cbc480cd0f4dca8862d8683e4a4ac6a") true
    lexJoins_said (fun _ h => by cases h) (by kernel_rfl) (fun _ h => by cases h) lexJoins_row_tie rfl ⟨rfl, rfl⟩ (by kernel_rfl) rfl
    (fun f fn hf hfn => by
      obtain rfl : f = 3 := Option.some.inj ((show Tryd.prog.funcNamed "jacquard/jacquardlaw2.LexJoins" = some 3 by kernel_rfl).symm.trans hf) |>.symm
      obtain rfl : fn = Tryd.f3 := (Option.some.inj (Tryd.func3.symm.trans hfn)).symm
      exact ⟨by kernel_rfl, fun j t ht => by
        rw [Tryd.params3] at ht
        have hm : t ∈ [9, 3] := by simpa using Array.mem_of_getElem? ht
        have hall : ([9, 3].all fun u => !Tryd.prog.wantsStandIn u) = true := by kernel_rfl
        exact (show Tryd.prog.wantsStandIn t = false by simpa using List.all_eq_true.1 hall t hm)⟩)
    (by kernel_rfl)
#print axioms lexJoins_card

end Go.Proofs.YtoipapbdepobjabDoor
