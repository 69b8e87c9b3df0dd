/- Proved: for every string the law ParseReads of layer 3 returns true and leaves its argument as it was; the condition is that the listed package-level variables hold what the program's text lays, to which the card ties them. -/
import Derived.Test.YtoaepdjjjcaafaaGreatDoorRefTreeW
import Derived.Test.YtoaepdjjjcaafaaGreatDoorParseAwake
import Derived.Test.YtoaepdjjjcaafaaGreatDoorLift2
namespace Go.Proofs.YtoaepdjjjcaafaaGreatDoor
open Go.ChangeShapes Go.WideShapes Go.ChangeAt Go.WideMaps Go.WideElems Go.RowKit
open Go.ChangeMaps (open_string shut_string)

theorem parse_open (s : ByteArray) (hs : s.size ≤ 140737488351232) {T : TestT} {c p : Nat} (h : parseP s = (T, c, p)) (w : World) (hw : Lw w) :
    Calls Tryz.prog 8 #[.string s] w fun e w' => ∃ n a1 m1 c1 a2 m2 c2 k a3 m3 c3, e = .returned (.tuple #[.agg #[.string n, .slice a1 m1 c1, .slice a2 m2 c2, .int .i64 k, .slice a3 m3 c3], .agg #[.int .i64 c, .int .i64 p]]) ∧ TestAt w' w.heap.size (.agg #[.string n, .slice a1 m1 c1, .slice a2 m2 c2, .int .i64 k, .slice a3 m3 c3]) T ∧ On w w' := by
  refine (parseGo_is s hs w hw).mono ?_
  rw [h]
  rintro e w' ⟨v, rfl, ht, k⟩
  obtain ⟨a1, m1, c1, a2, m2, c2, a3, m3, c3, rfl, _⟩ := id ht
  exact ⟨_, a1, m1, c1, a2, m2, c2, _, a3, m3, c3, rfl, ht, k⟩
theorem tree_open (s : ByteArray) (hs : s.size ≤ 140737488351232) {T : TestT} {c p : Nat} (h : parseP s = (T, c, p)) (w : World) :
    Calls Tryz.prog 9 #[.string s] w fun e w' => ∃ n a1 m1 c1 a2 m2 c2 k a3 m3 c3, e = .returned (.tuple #[.agg #[.string n, .slice a1 m1 c1, .slice a2 m2 c2, .int .i64 k, .slice a3 m3 c3], .agg #[.int .i64 c, .int .i64 p]]) ∧ TestAt w' w.heap.size (.agg #[.string n, .slice a1 m1 c1, .slice a2 m2 c2, .int .i64 k, .slice a3 m3 c3]) T ∧ On w w' := by
  refine (rtree_is w s hs).mono ?_
  rw [h]
  rintro e w' ⟨v, rfl, ht, k⟩
  obtain ⟨a1, m1, c1, a2, m2, c2, a3, m3, c3, rfl, _⟩ := id ht
  exact ⟨_, a1, m1, c1, a2, m2, c2, _, a3, m3, c3, rfl, ht, k⟩

set_option maxHeartbeats 1000000 in
set_option maxRecDepth 8000 in
theorem parseReads_walk (s : ByteArray) (hs : s.size ≤ reachBytes) (w : World) (hw : Lw w) :
    Calls Tryz.prog 4 #[.string s] w fun e w' => e = .returned (.bool true) ∧ On w w' := by
  have hs' : s.size ≤ 140737488351232 := hs
  obtain ⟨T, c, p, hR⟩ : ∃ T c p, parseP s = (T, c, p) := ⟨_, _, _, rfl⟩
  have hP := fun W (h : Lw W) => parse_open s hs' hR W h
  have hQ := fun W => tree_open s hs' hR W
  have hcc : ((c : Int) == c) = true := by simp
  have hpp : ((p : Int) == p) = true := by simp
  clear hR hs
  go_enter Tryz.func4, Tryz.ntmps4
  go_wp2_with fail
  refine (hP _ hw).mono ?_
  rintro e w1 ⟨n, a1, m1, c1, a2, m2, c2, k, a3, m3, c3, rfl, t1, k1⟩
  have W1 : Hid (On w w1) := k1
  have H1 : Hid (TestAt w1 w.heap.size (.agg #[.string n, .slice a1 m1 c1, .slice a2 m2 c2, .int .i64 k, .slice a3 m3 c3]) T) := t1
  clear k1 t1 hP
  go_wp2_with fail
  refine (hQ _).mono ?_
  rintro e w2 ⟨n', x1, y1, z1, x2, y2, z2, k', x3, y3, z3, rfl, t2, k2⟩
  have W2 : Hid (On w w2) := ((W1.out.alloc _).alloc _).trans k2
  have H2 := H1.out.on (((On.refl w1).alloc _).alloc _ |>.trans k2)
  have HH1 : Hid (TestAt w2 w.heap.size (.agg #[.string n, .slice a1 m1 c1, .slice a2 m2 c2, .int .i64 k, .slice a3 m3 c3]) T) := H2
  obtain ⟨bb, HH2⟩ : ∃ b, Hid (TestAt w2 b (.agg #[.string n', .slice x1 y1 z1, .slice x2 y2 z2, .int .i64 k', .slice x3 y3 z3]) T) := ⟨_, t2⟩
  have B1 := ((Bk.new w1 #[.string n, .slice a1 m1 c1, .slice a2 m2 c2, .int .i64 k, .slice a3 m3 c3] 29).alloc (.cells #[.int .i64 c, .int .i64 p] 32)).on k2
  have B2 := (Bk.new2 w1 (.cells #[.string n, .slice a1 m1 c1, .slice a2 m2 c2, .int .i64 k, .slice a3 m3 c3] 29) #[.int .i64 c, .int .i64 p] 32).on k2
  have b0 : w2.cell? ⟨w1.heap.size, 0, none⟩ = _ := B1.at rfl
  have b1 : w2.cell? ⟨w1.heap.size, 1, none⟩ = _ := B1.at rfl
  have b2 : w2.cell? ⟨w1.heap.size, 2, none⟩ = _ := B1.at rfl
  have b3 : w2.cell? ⟨w1.heap.size, 3, none⟩ = _ := B1.at rfl
  have b4 : w2.cell? ⟨w1.heap.size, 4, none⟩ = _ := B1.at rfl
  have d0 : w2.cell? ⟨w1.heap.size + 1, 0, none⟩ = _ := B2.at rfl
  have d1 : w2.cell? ⟨w1.heap.size + 1, 1, none⟩ = _ := B2.at rfl
  have bl := B1.lt
  have dl := B2.lt
  have bl1 := Nat.lt_succ_of_lt bl
  have dl1 := Nat.lt_succ_of_lt dl
  clear k2 t2 hQ H2 B1 B2 H1 W1
  go_wp2_with fail
  refine (same_is _ T _ _ _ _ ((HH1.out.alloc _).alloc _) ((HH2.out.alloc _).alloc _)).mono ?_
  rintro e w3 ⟨rfl, k3⟩
  have W3 : Hid (On w w3) := ((W2.out.alloc _).alloc _).trans k3
  clear k3 W2 HH1 HH2
  go_wp2_with fail
  refine (awake_any _ (hw.on W3.out)).mono ?_
  rintro e w4 ⟨rfl, k4⟩
  have W4 : Hid (On w w4) := W3.out.trans k4
  clear k4 W3
  go_wp2
  all_goals (try go_ret)
  all_goals exact ⟨rfl, W4.out⟩

set_option maxRecDepth 100000 in
theorem parseReads_lifted (os : Os) (started : os.Started) (H : Type) (enc : TypeId × Value → H) :
    ReturnsInHanded {} Tryz.checked os 4 .any (fun w args => (Rows.parseReadsSpec.pre enc Tryz.prog Tryz.f4 [] false w args ∧ laidMetH Tryz.prog laidL w) ∧ sizedMet enc Tryz.prog Tryz.f4 (OpenSpec.ofChange Rows.parseReadsSpec) false w args)
      (Rows.parseReadsSpec.post enc Tryz.prog Tryz.f4 false true false false) := by
  refine returnsInHanded_of_change_and (C := Tryz.checked) (X := fun w _ => laidMetH Tryz.prog laidL w) (fun _ _ _ hh h => h.of_heap hh) own started (by kernel_rfl) Tryz.func4
    (ChangeSpec.witness_shaped (enc := enc) (C := Tryz.checked) (os := os) (X := fun w _ => laidMetH Tryz.prog laidL w) false (World.doorLaid Tryz.prog 400 os) #[.string ⟨#[]⟩] 8 rfl (World.shaped_of_RefB (by kernel_rfl) (by kernel_rfl)) (by kernel_rfl) (by kernel_rfl) (by kernel_rfl) (door_met os _)) ?_
  intro W base args ds gs before hval0 hW _ hsz hL _
  have hval : ∀ (j : Nat) t v, Tryz.f4.params[j]? = some t → args[j]? = some v → Value.okWide Tryz.prog W .any base t v := hval0
  have hW' := hW
  obtain ⟨p, q, hA0, hV, rfl, hfz, hnd⟩ := hW
  have hA : DataW.TrodAll enc Tryz.prog W 0 (fun _ => true) true Tryz.f4.params.toList args.toList ds p := hA0
  rw [Tryz.params4] at hA hval
  obtain ⟨v0, d0, rfl, rfl, h0⟩ := trodAll_one hA
  obtain ⟨rfl, rfl⟩ := trodVars_none hV
  obtain ⟨s, rfl, rfl, rfl, ws⟩ := open_string Tryz.underlying9 (hval 0 9 v0 rfl rfl) h0
  have rs := sized_string hsz (j := 0) (t := 9) rfl rfl
  clear hA0 hval0
  simp only [List.append_nil] at hW'
  refine (parseReads_walk s rs W (of_laid hL)).mono fun e W' ⟨he, hw⟩ => ?_
  subst he
  refine ⟨_, rfl, _, _, _, [], [], [], hW', ?_, ?_, rfl, Below.frame hw _, fun h => by cases h⟩
  · exact trodAll_mk1 (shut_bool Tryz.underlying4 _)
  · exact trodAll_mk1 (shut_string Tryz.underlying9 ws)

theorem parseReads_said : Rows.ParseReadsSaid :=
  OpenClaim.holds_of_wide 4 Tryz.f4 rfl rfl rfl rfl rfl rfl rfl ⟨rfl, rfl, rfl, rfl, rfl⟩ rfl rfl rfl rfl rfl (by kernel_rfl) Tryz.func4 (by kernel_rfl)
    (of_decide_eq_true (by kernel_rfl)) (by unfold Func.isWrapper; first | (rw [if_pos (by decide +kernel)]; kernel_rfl) | (rw [if_neg (by decide +kernel)]; exact ⟨rfl, rfl⟩))
    (fun os started H enc _ => parseReads_lifted os started H enc)

theorem parseReads_card : Rows.ParseReadsCardSaid :=
  Claim7.holds_tied_plain_at .later [] [.data, .data, .data, .sentinel, .sentinel, .data] true (true, "fed6bbc9ddcd2524c91830ed1f8721a80336d6fec55a5b8dcdff097e5eeb25a8") true
    parseReads_said (fun _ h => by cases h) (by kernel_rfl) (fun _ h => by cases h) parseReads_row_tie rfl ⟨rfl, rfl⟩ (by kernel_rfl) rfl
    (fun f fn hf hfn => by
      obtain rfl : f = 4 := Option.some.inj ((show Tryz.prog.funcNamed "jacquard/jacquardlaw3.ParseReads" = some 4 by kernel_rfl).symm.trans hf) |>.symm
      obtain rfl : fn = Tryz.f4 := (Option.some.inj (Tryz.func4.symm.trans hfn)).symm
      exact ⟨by kernel_rfl, fun j t ht => by
        rw [Tryz.params4] at ht
        have hm : t ∈ [9] := by simpa using Array.mem_of_getElem? ht
        have hall : ([9].all fun u => !Tryz.prog.wantsStandIn u) = true := by kernel_rfl
        exact (show Tryz.prog.wantsStandIn t = false by simpa using List.all_eq_true.1 hall t hm)⟩)
    (by kernel_rfl)
#print axioms parseReads_card

end Go.Proofs.YtoaepdjjjcaafaaGreatDoor
