/- well.Read, for every text. -/
import Derived.Test.YtacflahkofmcpaaGreatDoorJ10LexCut
import Derived.Test.YtacflahkofmcpaaGreatDoorJ44WlCheckD
namespace Go.Proofs.YtacflahkofmcpaaGreatDoor
open Go.RowKit

theorem test_name (s : ByteArray) (S : St) : (testP s S).1.name.size ≤ s.size := by
  show (nameP s (expS s xTest S)).1.size ≤ s.size
  unfold nameP
  split
  · exact tok_size s _
  · exact Nat.zero_le _
theorem name_size (s : ByteArray) : (parseP s).1.name.size ≤ s.size := by
  unfold parseP
  split
  · exact Nat.zero_le _
  · unfold endP
    split
    · exact Nat.zero_le _
    · exact test_name s (startS s)
/-- An answer of Parse's kind, its cells told one by one. -/
def Opened (w : World) (T : TestT) (c p : Nat) (e : Ending) (w' : World) : Prop :=
  ∃ n a1 m1 c1 a2 m2 c2 k a3 m3 c3, e = .returned (.tuple #[.agg #[.string n, .slice a1 m1 c1, .slice a2 m2 c2, .int .i64 k, .slice a3 m3 c3], .agg #[.int .i64 c, .int .i64 p]]) ∧ TestAt w' w.heap.size (.agg #[.string n, .slice a1 m1 c1, .slice a2 m2 c2, .int .i64 k, .slice a3 m3 c3]) T ∧ On w w'
theorem open_post {w : World} {R : TestT × Nat × Nat} {T : TestT} {c p : Nat} (h : R = (T, c, p)) (e : Ending) (w' : World) (hp : ParsePost w R e w') : Opened w T c p e w' := by
  subst h
  obtain ⟨v, rfl, ht, k⟩ := hp
  obtain ⟨a1, m1, c1, a2, m2, c2, a3, m3, c3, rfl, _⟩ := id ht
  exact ⟨_, a1, m1, c1, a2, m2, c2, _, a3, m3, c3, rfl, ht, k⟩
theorem read_shape {s : ByteArray} {T : TestT} {c p cn : Nat} (hR : parseP s = (T, c, p)) (hcn : Wl.checkT (cT T) = (cn : Int)) :
    readR s = if c = 0 then (if cn = 0 then (T, 0, 0) else (noTest, cn, 0)) else (noTest, c, p) := by
  unfold readR
  rw [hR]
  by_cases hc0 : c = 0 <;> by_cases h0 : cn = 0 <;> simp [hc0, h0, hcn]
set_option maxHeartbeats 4000000 in
set_option maxRecDepth 8000 in
theorem read_is (s : ByteArray) (hs : s.size ≤ 140737488351232) (w : World) (hw : Lw w) (hl : Wl.Lw w) :
    Calls Tryz.prog 19 #[.string s] w (ParsePost w (readR s)) := by
  have hn := name_size s
  obtain ⟨T, c, p, hR⟩ : ∃ T c p, parseP s = (T, c, p) := ⟨_, _, _, rfl⟩
  have hP := fun W (k : On w W) => (parseGo_is s hs W (hw.on k)).mono (open_post hR)
  rw [hR] at hn
  have hn' : T.name.size ≤ 9223372036854775807 := Nat.le_trans hn (by omega)
  have hC := fun W v b (k : On w W) (h : TestAt W b v T) => Wl.check_is (cT T) v W (hl.on k) (rd_of_at h hn')
  obtain ⟨cn, hcn⟩ : ∃ cn : Nat, Wl.checkT (cT T) = (cn : Int) := ⟨_, (check_nat _).symm⟩
  have HR : Hid (readR s = if c = 0 then (if cn = 0 then (T, 0, 0) else (noTest, cn, 0)) else (noTest, c, p)) := read_shape hR hcn
  rw [hcn] at hC
  generalize readR s = R at *
  clear hR hn hn' hcn hs hw hl
  go_enter Tryz.func19, Tryz.ntmps19
  go_wp2_with fail
  refine (hP _ (((On.refl w).alloc _).alloc _)).mono ?_
  rintro e w1 ⟨n, a1, m1, c1, a2, m2, c2, k, a3, m3, c3, rfl, t1, k1⟩
  have W1 : Hid (On w w1) := (((On.refl w).alloc _).alloc _).trans k1
  have B1 := ((Bk.new w _ _).alloc _).on k1
  have A1 := (Bk.new2 w _ _ _).on k1
  rw [World.size_alloc, World.size_alloc] at t1
  have HT1 : Hid (TestAt w1 (w.heap.size + 2) (.agg #[.string n, .slice a1 m1 c1, .slice a2 m2 c2, .int .i64 k, .slice a3 m3 c3]) T) := t1
  clear k1 t1 hP
  have N1 : w.heap.size + 1 ≠ w.heap.size := by omega
  have N2 : w.heap.size ≠ w.heap.size + 1 := by omega
  by_cases hc0 : c = 0
  · subst hc0
    have L1 := A1.lt
    have L1' := B1.lt
    rw [if_pos rfl] at HR
    go_wp2_with fail
    refine (hC _ _ _ ((W1.out.alloc _).alloc _) ((HT1.out.alloc _).alloc _)).mono ?_
    rintro e w2 ⟨rfl, k2'⟩
    have k2 : On _ w2 := k2'
    have W2 : Hid (On w w2) := ((W1.out.alloc _).alloc _).trans k2
    have HT2 : Hid (TestAt w2 (w.heap.size + 2) (.agg #[.string n, .slice a1 m1 c1, .slice a2 m2 c2, .int .i64 k, .slice a3 m3 c3]) T) := ((HT1.out.alloc _).alloc _).on k2
    obtain ⟨U1, hb⟩ := ((B1.alloc _).alloc _).on k2
    obtain ⟨U2, ha⟩ := ((A1.alloc _).alloc _).on k2
    obtain ⟨U3, hv⟩ := ((Bk.new w1 #[.string n, .slice a1 m1 c1, .slice a2 m2 c2, .int .i64 k, .slice a3 m3 c3] 28).alloc (.cells #[.int .i64 (0 : Nat), .int .i64 p] 36)).on k2
    have L2 := lt_of_block hb
    have L3 := lt_of_block ha
    have L4 := lt_of_block hv
    have dc0 : w2.cell? ⟨w.heap.size, 0, none⟩ = some (.string ⟨#[]⟩) := by simp [World.cell?, hb]
    have df0 : w2.frozen? ⟨w.heap.size, 0, none⟩ = false := by simp [World.frozen?, hb]
    have dc1 : w2.cell? ⟨w.heap.size, 1, none⟩ = some (.slice none 0 0) := by simp [World.cell?, hb]
    have df1 : w2.frozen? ⟨w.heap.size, 1, none⟩ = false := by simp [World.frozen?, hb]
    have dc2 : w2.cell? ⟨w.heap.size, 2, none⟩ = some (.slice none 0 0) := by simp [World.cell?, hb]
    have df2 : w2.frozen? ⟨w.heap.size, 2, none⟩ = false := by simp [World.frozen?, hb]
    have dc3 : w2.cell? ⟨w.heap.size, 3, none⟩ = some (.int .i64 0) := by simp [World.cell?, hb]
    have df3 : w2.frozen? ⟨w.heap.size, 3, none⟩ = false := by simp [World.frozen?, hb]
    have dc4 : w2.cell? ⟨w.heap.size, 4, none⟩ = some (.slice none 0 0) := by simp [World.cell?, hb]
    have df4 : w2.frozen? ⟨w.heap.size, 4, none⟩ = false := by simp [World.frozen?, hb]
    have ac0 : w2.cell? ⟨w.heap.size + 1, 0, none⟩ = some (.int .i64 0) := by simp [World.cell?, ha]
    have af0 : w2.frozen? ⟨w.heap.size + 1, 0, none⟩ = false := by simp [World.frozen?, ha]
    have ac1 : w2.cell? ⟨w.heap.size + 1, 1, none⟩ = some (.int .i64 0) := by simp [World.cell?, ha]
    have af1 : w2.frozen? ⟨w.heap.size + 1, 1, none⟩ = false := by simp [World.frozen?, ha]
    have vc0 : w2.cell? ⟨w1.heap.size, 0, none⟩ = some (.string n) := by simp [World.cell?, hv]
    have vc1 : w2.cell? ⟨w1.heap.size, 1, none⟩ = some (.slice a1 m1 c1) := by simp [World.cell?, hv]
    have vc2 : w2.cell? ⟨w1.heap.size, 2, none⟩ = some (.slice a2 m2 c2) := by simp [World.cell?, hv]
    have vc3 : w2.cell? ⟨w1.heap.size, 3, none⟩ = some (.int .i64 k) := by simp [World.cell?, hv]
    have vc4 : w2.cell? ⟨w1.heap.size, 4, none⟩ = some (.slice a3 m3 c3) := by simp [World.cell?, hv]
    clear hb ha hv k2 k2' B1 A1 HT1 W1 hC
    by_cases hn0 : cn = 0
    · subst hn0
      rw [if_pos rfl] at HR
      go_wp2
      (try simp only [Exit.inBlock, Exit.then])
      obtain rfl := HR.out
      refine bodyPost_ret (v := .tuple #[.agg #[.string n, .slice a1 m1 c1, .slice a2 m2 c2, .int .i64 k, .slice a3 m3 c3], .agg #[.int .i64 0, .int .i64 0]]) ?_ rfl ⟨_, rfl, ?_, ?_⟩
      · rw [results_cells2 rfl]
        go_simp
      · refine TestAt.mono (base := w.heap.size + 2) ?_ (by omega)
        repeat' (first | with_reducible refine TestAt.setFar ?_ (by omega) _ | with_reducible refine TestAt.drew ?_ | with_reducible refine TestAt.alloc ?_ _ | with_reducible exact HT2.out)
      · repeat' (first | with_reducible refine On.setNew ?_ (by omega) _ | with_reducible refine On.drew ?_ | with_reducible refine On.alloc ?_ _ | with_reducible exact W2.out)
    · have hne : ((cn : Int) == 0) = false := by rw [beq_eq_false_iff_ne]; omega
      rw [if_neg hn0] at HR
      go_wp2
      (try simp only [Exit.inBlock, Exit.then])
      obtain rfl := HR.out
      refine bodyPost_ret (v := .tuple #[.agg #[.string ⟨#[]⟩, .slice none 0 0, .slice none 0 0, .int .i64 0, .slice none 0 0], .agg #[.int .i64 cn, .int .i64 0]]) ?_ rfl ⟨_, rfl, testAt_none _ _, ?_⟩
      · rw [results_cells2 rfl]
        go_simp
      · repeat' (first | with_reducible refine On.setNew ?_ (by omega) _ | with_reducible refine On.drew ?_ | with_reducible refine On.alloc ?_ _ | with_reducible exact W2.out)
  · rw [if_neg hc0] at HR
    have hne : ((c : Int) == 0) = false := by rw [beq_eq_false_iff_ne]; omega
    obtain ⟨U1, hb⟩ := B1
    obtain ⟨U2, ha⟩ := A1
    have L2 := lt_of_block hb
    have L3 := lt_of_block ha
    have dc0 : w1.cell? ⟨w.heap.size, 0, none⟩ = some (.string ⟨#[]⟩) := by simp [World.cell?, hb]
    have df0 : w1.frozen? ⟨w.heap.size, 0, none⟩ = false := by simp [World.frozen?, hb]
    have dc1 : w1.cell? ⟨w.heap.size, 1, none⟩ = some (.slice none 0 0) := by simp [World.cell?, hb]
    have df1 : w1.frozen? ⟨w.heap.size, 1, none⟩ = false := by simp [World.frozen?, hb]
    have dc2 : w1.cell? ⟨w.heap.size, 2, none⟩ = some (.slice none 0 0) := by simp [World.cell?, hb]
    have df2 : w1.frozen? ⟨w.heap.size, 2, none⟩ = false := by simp [World.frozen?, hb]
    have dc3 : w1.cell? ⟨w.heap.size, 3, none⟩ = some (.int .i64 0) := by simp [World.cell?, hb]
    have df3 : w1.frozen? ⟨w.heap.size, 3, none⟩ = false := by simp [World.frozen?, hb]
    have dc4 : w1.cell? ⟨w.heap.size, 4, none⟩ = some (.slice none 0 0) := by simp [World.cell?, hb]
    have df4 : w1.frozen? ⟨w.heap.size, 4, none⟩ = false := by simp [World.frozen?, hb]
    have ac0 : w1.cell? ⟨w.heap.size + 1, 0, none⟩ = some (.int .i64 0) := by simp [World.cell?, ha]
    have af0 : w1.frozen? ⟨w.heap.size + 1, 0, none⟩ = false := by simp [World.frozen?, ha]
    have ac1 : w1.cell? ⟨w.heap.size + 1, 1, none⟩ = some (.int .i64 0) := by simp [World.cell?, ha]
    have af1 : w1.frozen? ⟨w.heap.size + 1, 1, none⟩ = false := by simp [World.frozen?, ha]
    clear hb ha HT1 hC
    go_wp2
    go_region
    all_goals (try go_wp2)
    all_goals (try simp only [Exit.inBlock, Exit.then])
    all_goals
      obtain rfl := HR.out
      refine bodyPost_ret (v := .tuple #[.agg #[.string ⟨#[]⟩, .slice none 0 0, .slice none 0 0, .int .i64 0, .slice none 0 0], .agg #[.int .i64 c, .int .i64 p]]) ?_ rfl ⟨_, rfl, testAt_none _ _, ?_⟩
      · rw [results_cells2 rfl]
        go_simp
      · repeat' (first | with_reducible refine On.setNew ?_ (by omega) _ | with_reducible refine On.drew ?_ | with_reducible refine On.alloc ?_ _ | with_reducible exact W1.out)
end Go.Proofs.YtacflahkofmcpaaGreatDoor
