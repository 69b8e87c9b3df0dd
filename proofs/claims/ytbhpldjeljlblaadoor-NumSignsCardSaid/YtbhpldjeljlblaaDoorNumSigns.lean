/- Proved: for every int and every string the law NumSigns of layer 1 returns true and leaves its arguments as they were; the condition is that the listed package-level variables hold what the program's text lays, to which the card ties them. -/
import Derived.Test.YtbhpldjeljlblaaDoorLift
namespace Go.Proofs.YtbhpldjeljlblaaDoor
open Go.ChangeShapes Go.WideShapes Go.ChangeAt Go.WideMaps Go.WideElems Go.RowKit
open Go.ChangeMaps (open_string shut_string)

def sgn (k : Nat) : ByteArray := signTexts.getD k ⟨#[]⟩

set_option maxHeartbeats 400000 in
theorem sign_is (i : Nat) (h1 : 1 ≤ i) (h2 : i ≤ 11) (w : World) (hw : Lw w) :
    Calls Tryd.prog 17 #[.int .i64 i] w fun e w' => e = .returned (.string (sgn i)) ∧ w' = w := by
  have hc : w.cell? ⟨0, i, none⟩ = some (.string (sgn i)) := cell_sign hw i (by omega)
  clear hw
  go_enter Tryd.func17, Tryd.ntmps17
  go_wp2
  go_ret
  exact ⟨rfl, rfl⟩
set_option maxHeartbeats 400000 in
theorem sign_none (i : Int) (h : i < 1 ∨ 11 < i) (w : World) :
    Calls Tryd.prog 17 #[.int .i64 i] w fun e w' => e = .returned (.string ⟨#[]⟩) ∧ w' = w := by
  rcases h with h | h
  · go_enter Tryd.func17, Tryd.ntmps17
    go_wp2
    go_ret
    exact ⟨rfl, rfl⟩
  · go_enter Tryd.func17, Tryd.ntmps17
    go_wp2
    go_ret
    exact ⟨rfl, rfl⟩

set_option maxHeartbeats 400000 in
theorem op_any (s : ByteArray) (r : Nat) (h1 : 1 ≤ r) (h2 : r ≤ 12) (hlt : ∀ k, 1 ≤ k → k < r → ((sgn k).toList == s.toList) = false) (heq : r ≤ 11 → ((sgn r).toList == s.toList) = true) (w : World) (hw : Lw w) :
    Calls Tryd.prog 18 #[.string s] w fun e w' => e = .returned (.tuple #[.int .i64 (if r ≤ 11 then r else 0), .bool (decide (r ≤ 11))]) ∧ w' = w := by
  have hc : ∀ k, k < 12 → w.cell? ⟨0, k, none⟩ = some (.string (sgn k)) := fun k hk => cell_sign hw k hk
  clear hw
  go_enter Tryd.func18, Tryd.ntmps18
  go_wp2
  go_loop [4] (fun i => ∃ k : Nat, 1 ≤ k ∧ k ≤ r ∧ i = .int .i64 k) (fun i => 12 - (intOf i).toNat)
  case atStart => exact ⟨1, by omega, h1, rfl⟩
  case round =>
    obtain ⟨k, k1, k2, rfl⟩ := hrel
    by_cases hk : k < r
    · have e1 := hlt k k1 hk
      have e2 := hc k (by omega)
      clear hlt heq hc
      go_wp2
      go_round
      case rel => exact ⟨k + 1, by omega, by omega, by go_num⟩
      case measure => simp [intOf]; omega
    · obtain rfl : k = r := by omega
      by_cases h11 : k ≤ 11
      · have e1 := heq h11
        have e2 := hc k (by omega)
        clear hlt heq hc
        go_wp2
        go_ret2
        exact ⟨by simp, rfl⟩
      · clear hlt heq hc
        go_wp2
        go_ret2
        exact ⟨by simp, rfl⟩

theorem alloc_cell (w : World) (cs : Array Value) (t : TypeId) (k : Nat) : (w.alloc (.cells cs t)).cell? ⟨w.heap.size, k, none⟩ = cs[k]? := by
  simp only [World.cell?, World.alloc, Array.getElem?_push_size]
  rfl

theorem rsigns (w : World) :
    Calls Tryd.prog 26 #[] w fun e w' => e = .returned (.slice (some ⟨w.heap.size, 0, none⟩) 11 11) ∧ On w w' ∧ ∀ k, k < 11 → w'.cell? ⟨w.heap.size, k, none⟩ = some (.string (sgn (k + 1))) := by
  go_enter Tryd.func26, Tryd.ntmps26
  go_wp2
  go_ret
  refine ⟨rfl, Below.alloc (Below.refl _ _) (Nat.le_refl _) _, fun k hk => ?_⟩
  rw [alloc_cell]
  match k, hk with
  | 0, _ | 1, _ | 2, _ | 3, _ | 4, _ | 5, _ | 6, _ | 7, _ | 8, _ | 9, _ | 10, _ => rfl
  | n + 11, h => omega

set_option maxHeartbeats 400000 in
theorem rsign_is (i : Nat) (h1 : 1 ≤ i) (h2 : i ≤ 11) (w : World) :
    Calls Tryd.prog 20 #[.int .i64 i] w fun e w' => e = .returned (.string (sgn i)) ∧ On w w' := by
  obtain ⟨j, rfl⟩ : ∃ j, i = j + 1 := ⟨i - 1, by omega⟩
  have hR := rsigns w
  go_enter Tryd.func20, Tryd.ntmps20
  go_wp2_with (go_at_call 26; refine hR.mono ?_; rintro e w1 ⟨rfl, k1, hc⟩; have hj := hc j (by omega); clear hc)
  go_ret
  exact ⟨rfl, k1⟩
set_option maxHeartbeats 400000 in
theorem rsign_none (i : Int) (h : i < 1 ∨ 11 < i) (w : World) :
    Calls Tryd.prog 20 #[.int .i64 i] w fun e w' => e = .returned (.string ⟨#[]⟩) ∧ w' = w := by
  rcases h with h | h
  · go_enter Tryd.func20, Tryd.ntmps20
    go_wp2
    go_ret
    exact ⟨rfl, rfl⟩
  · go_enter Tryd.func20, Tryd.ntmps20
    go_wp2
    go_ret
    exact ⟨rfl, rfl⟩

set_option maxHeartbeats 400000 in
theorem rop_any (s : ByteArray) (r : Nat) (h1 : 1 ≤ r) (h2 : r ≤ 12) (hlt : ∀ k, 1 ≤ k → k < r → ((sgn k).toList == s.toList) = false) (heq : r ≤ 11 → ((sgn r).toList == s.toList) = true) (w : World) :
    Calls Tryd.prog 19 #[.string s] w fun e w' => e = .returned (.tuple #[.int .i64 (if r ≤ 11 then r else 0), .bool (decide (r ≤ 11))]) ∧ On w w' := by
  have hR := rsigns w
  go_enter Tryd.func19, Tryd.ntmps19
  go_wp2_with (go_at_call 26; refine hR.mono ?_; rintro e w1 ⟨rfl, k1, hc⟩)
  clear hR
  go_loop [5] (fun i => ∃ k : Nat, k + 1 ≤ r ∧ i = .int .i64 k) (fun i => 12 - (intOf i).toNat)
  case atStart => exact ⟨0, h1, rfl⟩
  case round =>
    obtain ⟨k, k2, rfl⟩ := hrel
    by_cases hk : k + 1 < r
    · have e1 := hlt (k + 1) (by omega) hk
      have e2 := hc k (by omega)
      clear hlt heq hc
      go_wp2
      go_round
      case rel => exact ⟨k + 1, by omega, by go_num⟩
      case measure => simp [intOf]; omega
    · obtain rfl : k + 1 = r := by omega
      by_cases h11 : k + 1 ≤ 11
      · have e1 := heq h11
        have e2 := hc k (by omega)
        clear hlt heq hc
        go_wp2
        go_ret2
        exact ⟨by simp, k1⟩
      · clear hlt heq hc
        go_wp2
        go_ret2
        exact ⟨by simp, k1⟩

/-- Where s stands among the signs; twelve if nowhere. -/
def opFrom (s : ByteArray) : Nat → Nat
  | 0 => 12
  | n + 1 => if ((sgn (12 - (n + 1))).toList == s.toList) = true then 12 - (n + 1) else opFrom s n
def opR (s : ByteArray) : Nat := opFrom s 11
theorem opFrom_is (s : ByteArray) (n : Nat) (hn : n ≤ 11) : 12 - n ≤ opFrom s n ∧ opFrom s n ≤ 12 ∧ (∀ k, 12 - n ≤ k → k < opFrom s n → ((sgn k).toList == s.toList) = false) ∧ (opFrom s n ≤ 11 → ((sgn (opFrom s n)).toList == s.toList) = true) := by
  induction n with
  | zero => exact ⟨by simp [opFrom], by simp [opFrom], fun k a b => by simp [opFrom] at b; omega, fun h => by simp [opFrom] at h⟩
  | succ n ih =>
    obtain ⟨r1, r2, r3, r4⟩ := ih (by omega)
    unfold opFrom
    by_cases e : ((sgn (12 - (n + 1))).toList == s.toList) = true
    · rw [if_pos e]
      exact ⟨by omega, by omega, fun k a b => by omega, fun _ => e⟩
    · rw [if_neg e]
      refine ⟨by omega, r2, fun k a b => ?_, r4⟩
      by_cases hk : k = 12 - (n + 1)
      · rw [hk]; simpa using e
      · exact r3 k (by omega) b
def opV (s : ByteArray) : Int := if opR s ≤ 11 then (opR s : Int) else 0
def opB (s : ByteArray) : Bool := decide (opR s ≤ 11)
theorem op_is (s : ByteArray) (w : World) (hw : Lw w) :
    Calls Tryd.prog 18 #[.string s] w fun e w' => e = .returned (.tuple #[.int .i64 (opV s), .bool (opB s)]) ∧ w' = w :=
  have h := opFrom_is s 11 (by omega)
  op_any s (opR s) h.1 h.2.1 h.2.2.1 h.2.2.2 w hw
theorem rop_is (s : ByteArray) (w : World) :
    Calls Tryd.prog 19 #[.string s] w fun e w' => e = .returned (.tuple #[.int .i64 (opV s), .bool (opB s)]) ∧ On w w' :=
  have h := opFrom_is s 11 (by omega)
  rop_any s (opR s) h.1 h.2.1 h.2.2.1 h.2.2.2 w

theorem opR_sgn (i : Nat) (h1 : 1 ≤ i) (h2 : i ≤ 11) : opR (sgn i) = i ∧ (sgn i).toList.isEmpty = false := by
  have hh : ∀ n : Nat, ∀ s : ByteArray, opFrom s n = opFrom ⟨s.data⟩ n := fun _ _ => rfl
  have all : ∀ i : Fin 12, 1 ≤ i.val → (∀ k : Fin 12, 1 ≤ k.val → k.val < i.val → ((sgn k).data.toList == (sgn i).data.toList) = false) ∧ (sgn i).data.toList.isEmpty = false := by decide
  obtain ⟨a, c⟩ := all ⟨i, by omega⟩ h1
  obtain ⟨r1, r2, r3, r4⟩ := opFrom_is (sgn i) 11 (by omega)
  refine ⟨?_, by rw [ByteArray.toList_eq]; exact c⟩
  show opFrom (sgn i) 11 = i
  by_cases hlt : opFrom (sgn i) 11 < i
  · have e := r4 (by omega)
    have e' := a ⟨opFrom (sgn i) 11, by omega⟩ r1 hlt
    rw [ByteArray.toList_eq, ByteArray.toList_eq] at e
    rw [e] at e'
    cases e'
  · by_cases hgt : i < opFrom (sgn i) 11
    · have e := r3 i h1 hgt
      simp at e
    · omega
theorem opR_none : opR ⟨#[]⟩ = 12 := by
  have all : ∀ i : Fin 12, 1 ≤ i.val → ((sgn i).data.toList == []) = false := by decide
  obtain ⟨r1, r2, r3, r4⟩ := opFrom_is ⟨#[]⟩ 11 (by omega)
  show opFrom ⟨#[]⟩ 11 = 12
  by_cases h : opFrom ⟨#[]⟩ 11 ≤ 11
  · have e := r4 h
    have e' := all ⟨opFrom ⟨#[]⟩ 11, by omega⟩ r1
    rw [ByteArray.toList_eq, ByteArray.toList_eq] at e
    have e2 : ((sgn (opFrom ⟨#[]⟩ 11)).data.toList == []) = true := e
    rw [e2] at e'
    cases e'
  · omega

set_option maxHeartbeats 1000000 in
theorem numSigns_walk (o : Int) (s : ByteArray) (w : World) (hw : Lw w) :
    Calls Tryd.prog 8 #[.int .i64 o, .string s] w fun e w' => e = .returned (.bool true) ∧ On w w' := by
  have hO : ∀ x w1, On w w1 → Calls Tryd.prog 18 #[.string x] w1 fun e w' => e = .returned (.tuple #[.int .i64 (opV x), .bool (opB x)]) ∧ w' = w1 := fun x w1 k => op_is x w1 (hw.on k)
  have hR := rop_is s
  have hA : ∀ w1, On w w1 → Calls Tryd.prog 10 #[] w1 fun e w' => e = .returned (.bool true) ∧ On w1 w' := fun w1 k => awake_any w1 (hw.on k)
  by_cases h : 1 ≤ o ∧ o ≤ 11
  · obtain ⟨i, rfl⟩ : ∃ i : Nat, o = i := ⟨o.toNat, by omega⟩
    obtain ⟨t1, t2⟩ := opR_sgn i (by omega) (by omega)
    have t3 : opV (sgn i) = i := by unfold opV; rw [t1, if_pos (by omega)]
    have t4 : opB (sgn i) = true := by unfold opB; rw [t1]; simp; omega
    have hS := sign_is i (by omega) (by omega) w hw
    have hS' : ∀ w1, Calls Tryd.prog 20 #[.int .i64 i] w1 fun e w' => e = .returned (.string (sgn i)) ∧ On w1 w' := fun w1 => rsign_is i (by omega) (by omega) w1
    generalize sgn i = t at *
    clear hw t1 h
    go_enter Tryd.func8, Tryd.ntmps8
    go_wp2_with (first | (go_at_call 17; refine hS.mono ?_; rintro e w' ⟨rfl, rfl⟩) | (go_at_call 18; refine (hO _ _ ?_).mono ?_; (first | exact On.refl _ | exact k1.trans k2); rintro e w' ⟨rfl, rfl⟩) | (go_at_call 19; refine (hR _).mono ?_; rintro e w1 ⟨rfl, k1⟩) | (go_at_call 20; refine (hS' _).mono ?_; rintro e w2 ⟨rfl, k2⟩) | (go_at_call 10; refine (hA _ (k1.trans k2)).mono ?_; rintro e w' ⟨rfl, k⟩))
    go_ret
    exact ⟨rfl, (k1.trans k2).trans k⟩
  · have hS := sign_none o (by omega) w
    have hS' : ∀ w1, Calls Tryd.prog 20 #[.int .i64 o] w1 fun e w' => e = .returned (.string ⟨#[]⟩) ∧ w' = w1 := fun w1 => rsign_none o (by omega) w1
    have t4 : opB ⟨#[]⟩ = false := by unfold opB; rw [opR_none]; rfl
    clear hw h
    go_enter Tryd.func8, Tryd.ntmps8
    go_wp2_with (first | (go_at_call 17; refine hS.mono ?_; rintro e w' ⟨rfl, rfl⟩) | (go_at_call 18; refine (hO _ _ ?_).mono ?_; (first | exact On.refl _ | exact k1); rintro e w' ⟨rfl, rfl⟩) | (go_at_call 19; refine (hR _).mono ?_; rintro e w1 ⟨rfl, k1⟩) | (go_at_call 20; refine (hS' _).mono ?_; rintro e w2 ⟨rfl, rfl⟩) | (go_at_call 10; refine (hA _ k1).mono ?_; rintro e w' ⟨rfl, k⟩))
    go_ret
    exact ⟨rfl, k1.trans k⟩

set_option maxRecDepth 100000 in
theorem numSigns_lifted (os : Os) (started : os.Started) (H : Type) (enc : TypeId × Value → H) :
    ReturnsInHanded {} Tryd.checked os 8 .any (fun w args => (Rows.numSignsSpec.pre enc Tryd.prog Tryd.f8 [] false w args ∧ laidMetH Tryd.prog laidL w) ∧ sizedMet enc Tryd.prog Tryd.f8 (OpenSpec.ofChange Rows.numSignsSpec) false w args)
      (Rows.numSignsSpec.post enc Tryd.prog Tryd.f8 false true false false) := by
  refine returnsInHanded_of_change_and (C := Tryd.checked) (X := fun w _ => laidMetH Tryd.prog laidL w) (fun _ _ _ hh h => h.of_heap hh) own started (by kernel_rfl) Tryd.func8
    (ChangeSpec.witness_shaped (enc := enc) (C := Tryd.checked) (os := os) (X := fun w _ => laidMetH Tryd.prog laidL w) false (World.doorLaid Tryd.prog 400 os) #[.int .i64 0, .string ⟨#[]⟩] 8 rfl (World.shaped_of_RefB (by kernel_rfl) (by kernel_rfl)) (by kernel_rfl) (by kernel_rfl) (by kernel_rfl) (door_met os _)) ?_
  intro W base args ds gs before hval0 hW _ _ hL _
  have hval : ∀ (j : Nat) t v, Tryd.f8.params[j]? = some t → args[j]? = some v → Value.okWide Tryd.prog W .any base t v := hval0
  have hW' := hW
  obtain ⟨p, q, hA0, hV, rfl, hfz, hnd⟩ := hW
  have hA : DataW.TrodAll enc Tryd.prog W 0 (fun _ => true) true Tryd.f8.params.toList args.toList ds p := hA0
  rw [Tryd.params8] at hA hval
  obtain ⟨v0, v1, d0, d1, p0, p1, rfl, rfl, rfl, h0, h1⟩ := trodAll_two hA
  obtain ⟨rfl, rfl⟩ := trodVars_none hV
  obtain ⟨o, rfl, rfl, rfl, wo⟩ := open_int Tryd.underlying3 (hval 0 3 v0 rfl rfl) h0
  obtain ⟨o0, o1⟩ := bd wo
  obtain ⟨s, rfl, rfl, rfl, ws⟩ := open_string Tryd.underlying9 (hval 1 9 v1 rfl rfl) h1
  clear hA0 hval0
  simp only [List.append_nil] at hW'
  refine (numSigns_walk o s W (of_laid hL)).mono fun e W' ⟨he, hw⟩ => ?_
  subst he
  refine ⟨_, rfl, _, _, _, [], [], [], hW', ?_, ?_, rfl, Below.frame hw _, fun h => by cases h⟩
  · exact trodAll_mk1 (shut_bool Tryd.underlying4 _)
  · exact trodAll_mk2 (shut_int Tryd.underlying3 wo) (shut_string Tryd.underlying9 ws)

theorem numSigns_said : Rows.NumSignsSaid :=
  OpenClaim.holds_of_wide 8 Tryd.f8 rfl rfl rfl rfl rfl rfl rfl ⟨rfl, rfl, rfl, rfl, rfl⟩ rfl rfl rfl rfl rfl (by kernel_rfl) Tryd.func8 (by kernel_rfl)
    (of_decide_eq_true (by kernel_rfl)) (by unfold Func.isWrapper; first | (rw [if_pos (by decide +kernel)]; kernel_rfl) | (rw [if_neg (by decide +kernel)]; exact ⟨rfl, rfl⟩))
    (fun os started H enc _ => numSigns_lifted os started H enc)

theorem numSigns_card : Rows.NumSignsCardSaid :=
  Claim7.holds_tied_plain_at .later [] [.data, .data, .data, .sentinel, .sentinel, .data] true (true, "847b8a52e8b586cb235d3b9e769f39e99c422cdabe71d8d3c8745244cdda13f7") true
    numSigns_said (fun _ h => by cases h) (by kernel_rfl) (fun _ h => by cases h) numSigns_row_tie rfl ⟨rfl, rfl⟩ (by kernel_rfl) rfl
    (fun f fn hf hfn => by
      obtain rfl : f = 8 := Option.some.inj ((show Tryd.prog.funcNamed "jacquard/jacquardlaw1.NumSigns" = some 8 by kernel_rfl).symm.trans hf) |>.symm
      obtain rfl : fn = Tryd.f8 := (Option.some.inj (Tryd.func8.symm.trans hfn)).symm
      exact ⟨by kernel_rfl, fun j t ht => by
        rw [Tryd.params8] at ht
        have hm : t ∈ [3, 9] := by simpa using Array.mem_of_getElem? ht
        have hall : ([3, 9].all fun u => !Tryd.prog.wantsStandIn u) = true := by kernel_rfl
        exact (show Tryd.prog.wantsStandIn t = false by simpa using List.all_eq_true.1 hall t hm)⟩)
    (by kernel_rfl)
#print axioms numSigns_card

end Go.Proofs.YtbhpldjeljlblaaDoor
