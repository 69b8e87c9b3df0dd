/- ParseTurned, walked: a made test's text with one byte turned, one left out and some cut off is parsed as the document says. -/
import Derived.Test.YtacflahkofmcpaaGreatDoorJ30WlTokP
import Derived.Test.YtacflahkofmcpaaGreatDoorToldS
import Derived.Test.YtacflahkofmcpaaGreatDoorWlSmallC
import Derived.Test.YtacflahkofmcpaaGreatDoorJ48ParseAwake
import Derived.Test.YtacflahkofmcpaaGreatDoorJ27WlSmallH
import Derived.Test.YtacflahkofmcpaaGreatDoorJ36WlRegFin3
import Derived.Deep.DeepCutAuto
namespace Go.Proofs.YtacflahkofmcpaaGreatDoor.Wl
open Go.RowKit

theorem wrap_id {n : Int} (h0 : -9223372036854775808 ≤ n) (h1 : n ≤ 9223372036854775807) : IntKind.i64.wrap n = n := by
  have e : (2 : Int) ^ 64 = 18446744073709551616 := by decide
  have e' : (2 : Int) ^ 63 = 9223372036854775808 := by decide
  simp only [IntKind.wrap, IntKind.signed, IntKind.bits, e, e', Bool.true_and, decide_eq_true_eq]
  split <;> omega
theorem rem_at (x n : Nat) (h : 0 < n) : ∃ i : Nat, i < n ∧ (x : Int) % n = i ∧ Int.tmod x n = i := by
  refine ⟨x % n, Nat.mod_lt _ h, ?_, ?_⟩
  · exact (Int.natCast_emod x n).symm
  · rw [Int.tmod_eq_emod_of_nonneg (Int.natCast_nonneg x)]; exact (Int.natCast_emod x n).symm
set_option maxHeartbeats 8000000 in
set_option maxRecDepth 8000 in
theorem parseTurned_walk (a : Option Addr) (zs : List Int) (cap : Nat) (p b q c : Int) (w : World) (hz : zs.length ≤ 9223372036854775807) (hr : Rd intC 1 w (.slice a zs.length cap) zs) (lw : Go.Proofs.YtacflahkofmcpaaGreatDoor.Lw w) :
    Calls Tryz.prog 4 #[.slice a zs.length cap, .int .i64 p, .int .u8 b, .int .i64 q, .int .i64 c] w fun e w' => e = .returned (.bool true) ∧ On w w' := by
  have hS := small_is zs a cap 6 w hz hr
  have hok := small_ok zs 6
  have hB := small_B zs 6
  have hT := small_text zs 6
  have hZ := small_short zs 6
  have hnm : (smallP zs 6).name.size ≤ 9223372036854775807 := by show 1 ≤ _; decide
  have hpos : 2 ≤ (textL (smallP zs 6)).length := by
    obtain ⟨r, h⟩ := text_last (smallP zs 6)
    rw [h, List.length_append]
    simp
  generalize smallP zs 6 = T at *
  obtain ⟨P, hP⟩ : ∃ P : ByteArray, P = ⟨(textL T).toArray⟩ := ⟨_, rfl⟩
  have hpr := fun W v (h : TestRd W v T) => rprint_is T v W h hok hB hT
  rw [← hP] at hpr
  have hPl : P.data.toList.length = (textL T).length := by rw [hP]
  have hPs : P.size = P.data.toList.length := Go.Proofs.YtacflahkofmcpaaGreatDoor.size_list P
  obtain ⟨B, hBl⟩ : ∃ B, B = P.data.toList := ⟨_, rfl⟩
  have hn2 : 2 ≤ B.length := by rw [hBl]; omega
  have hn4 : B.length ≤ 4000 := by rw [hBl]; omega
  have hPB : P.size = B.length := by rw [hBl]; exact hPs
  clear hok hB hT hZ hP hPl hpos hr hz
  obtain ⟨x, hx⟩ : ∃ x : Nat, bits .and .i64 p 65535 = (x : Int) := ⟨_, low16 p⟩
  obtain ⟨y, hy⟩ : ∃ y : Nat, bits .and .i64 q 65535 = (y : Int) := ⟨_, low16 q⟩
  obtain ⟨i, hi, hi1, hi2⟩ := rem_at x B.length (by omega)
  obtain ⟨k, hk, hk1, hk2⟩ := rem_at y B.length (by omega)
  go_enter Tryz.func4, Tryz.ntmps4
  go_wp2_with fail
  refine hS.mono ?_
  rintro _ w1 ⟨v1, rfl, ho1, k1⟩
  have RT1 := TOwn.rdW ho1 hnm
  obtain ⟨a1, c1, a2, c2, a3, c3, rfl, _⟩ := id RT1.ex
  clear hS ho1
  go_wp2_with fail
  refine (hpr w1 _ RT1).mono ?_
  rintro _ w2 ⟨rfl, k2⟩
  clear hpr RT1
  have K2 := k1.trans k2
  have hconv := Lib.run_convert_string_bytes (P := Tryz.prog) w2 9 41 5 P Tryz.underlying9 Tryz.underlying41 Tryz.underlying5
  have RB := bytes_rd w2 P (by omega)
  have KB := K2.trans (bytes_on w2 P)
  have FB := fun j (hj : j < P.size) => bytes_fr w2 P hj
  have hsz := Lib.bytesWorld_size w2 5 P
  rw [← hBl] at RB
  rw [hPB] at hconv RB FB
  clear hBl hPs
  have HPB : Hid (P.size = B.length) := hPB
  clear hPB
  generalize Lib.bytesWorld w2 5 P = w3 at *
  generalize hcp : grownCap w2 B.length 0 5 = cap3 at *
  have hcap : B.length ≤ cap3 := by rw [← hcp]; exact grownCap_ge _ _ _ _
  clear hcp
  obtain ⟨u, hu⟩ := rdb_at RB hi
  have fu := FB i hi
  obtain ⟨t, ht⟩ := xor_byte u.toNat b
  generalize hg : w2.heap.size = g at *
  have hg3 : g < w3.heap.size := by omega
  have hb0 : ((B.length : Int) == 0) = false := by rw [beq_eq_false_iff_ne]; omega
  go_upto_region 7 with fail
  have RB4 := rdb_set RB i t
  have hDl : (B.set i t).length = B.length := List.length_set
  generalize B.set i t = D at *
  obtain ⟨W4, hW4⟩ : ∃ W4, W4 = w3.setCell ⟨g, i, none⟩ (.int .u8 t.toNat) := ⟨_, rfl⟩
  rw [← hW4] at RB4 ⊢
  have KW4 : On w W4 := by rw [hW4]; exact KB.setNew (by rw [← hg]; exact K2.size) _
  have hg4 : g < W4.heap.size := by rw [hW4]; simpa [World.setCell] using hg3
  rw [hDl] at RB4
  clear hW4 hu fu FB hconv RB KB
  generalize B.length = n at *
  clear B
  have HR1 : Hid (Rd byteC 1 W4 (.slice (some ⟨g, 0, none⟩) k cap3) (D.take k)) := by
    have := rdb_take (B := D) (by rw [hDl]; exact RB4) k (by omega)
    rwa [List.length_take, Nat.min_eq_left (by omega)] at this
  obtain ⟨A, hA⟩ : ∃ A : Option Addr, A = if cap3 = k + 1 then some ⟨g, 0, none⟩ else some ⟨g, k + 1, none⟩ := ⟨_, rfl⟩
  have HR2 : Hid (Rd byteC 1 W4 (.slice A (n - (k + 1)) (cap3 - (k + 1))) (D.drop (k + 1))) := by
    have h := rdb_drop (B := D) (by rw [hDl]; exact RB4) (k + 1) (by omega)
    rw [List.length_drop, hDl, Nat.zero_add] at h
    rw [hA]
    by_cases hc : cap3 = k + 1
    · rw [if_pos hc]
      obtain ⟨_, _, hv, h1, h2, _⟩ := h
      have hl : (D.drop (k + 1)).length = n - (k + 1) := by rw [List.length_drop, hDl]
      simp only [Value.slice.injEq] at hv
      obtain ⟨_, _, rfl⟩ := hv
      exact ⟨_, _, by rw [hl], h1, h2, fun h0 => by omega⟩
    · rw [if_neg hc]; exact h
  have HA : Hid (A = if cap3 = k + 1 then some ⟨g, 0, none⟩ else some ⟨g, k + 1, none⟩) := hA
  clear hA
  have hkn : k ≤ n := by omega
  have hkn1 : k + 1 ≤ n := by omega
  have hkc : k ≤ cap3 := by omega
  have hkc1 : k + 1 ≤ cap3 := by omega
  have hw1 : IntKind.i64.wrap ((k : Int) + 1) = (k : Int) + 1 := wrap_id (by omega) (by omega)
  have K0 : On W4 W4.drew := On.drew (On.refl W4)
  have hon : ∀ W W', On W4 W → On W W' → On W4 W' := fun W W' h k => h.trans k
  refine region_fin (fun W => On W4 W) 99 11 (by kernel_rfl) rfl ?_
  refine fin_take 1 (v := ?_) rfl (by kernel_rfl) (by kernel_rfl) (by kernel_rfl) (by kernel_rfl) (fun _ _ _ h => h) rfl ?_ K0 ?_
  rotate_left
  · intro W hW
    go_simp
    (try with_reducible rfl)
  simp only [Act.put, List.setIfInBounds_toArray, List.set_cons_zero, List.set_cons_succ]
  refine fin_take 2 (v := ?_) rfl (by kernel_rfl) (by kernel_rfl) (by kernel_rfl) (by kernel_rfl) (fun _ _ _ h => h) rfl ?_ K0 ?_
  rotate_left
  · intro W hW
    go_simp
    (try with_reducible rfl)
  simp only [Act.put, List.setIfInBounds_toArray, List.set_cons_zero, List.set_cons_succ]
  refine fin_take 3 (v := ?_) rfl (by kernel_rfl) (by kernel_rfl) (by kernel_rfl) (by kernel_rfl) (fun _ _ _ h => h) rfl ?_ K0 ?_
  rotate_left
  · intro W hW
    go_simp
    (try with_reducible rfl)
  simp only [Act.put, List.setIfInBounds_toArray, List.set_cons_zero, List.set_cons_succ]
  refine fin_take 5 (v := ?_) rfl (by kernel_rfl) (by kernel_rfl) (by kernel_rfl) (by kernel_rfl) (fun _ _ _ h => h) rfl ?_ K0 ?_
  rotate_left
  · intro W hW
    go_simp
    (try with_reducible rfl)
  simp only [Act.put, List.setIfInBounds_toArray, List.set_cons_zero, List.set_cons_succ]
  refine fin_take 6 (v := ?_) rfl (by kernel_rfl) (by kernel_rfl) (by kernel_rfl) (by kernel_rfl) (fun _ _ _ h => h) rfl ?_ K0 ?_
  rotate_left
  · intro W hW
    go_simp
    (try with_reducible rfl)
  simp only [Act.put, List.setIfInBounds_toArray, List.set_cons_zero, List.set_cons_succ]
  refine fin_take 7 (v := ?_) rfl (by kernel_rfl) (by kernel_rfl) (by kernel_rfl) (by kernel_rfl) (fun _ _ _ h => h) rfl ?_ K0 ?_
  rotate_left
  · intro W hW
    go_simp
    (try with_reducible rfl)
  simp only [Act.put, List.setIfInBounds_toArray, List.set_cons_zero, List.set_cons_succ]
  refine fin_take 8 (v := .slice A (n - (k + 1)) (cap3 - (k + 1))) rfl (by kernel_rfl) (by kernel_rfl) (by kernel_rfl) (by kernel_rfl) (fun _ _ _ h => h) rfl ?_ K0 ?_
  · intro W hW
    go_simp
    rw [if_pos ⟨by omega, by omega⟩, ← HA.out]
  simp only [Act.put, List.setIfInBounds_toArray, List.set_cons_zero, List.set_cons_succ]
  refine fin_one 0 rfl rfl (by kernel_rfl) (fun K hK => ?_)
  go_simp
  obtain ⟨Va, hVa⟩ : ∃ Va, Va = (W4.alloc (.cells #[] 5)).drew := ⟨_, rfl⟩
  rw [← hVa]
  have kVa : On W4 Va := by rw [hVa]; exact On.drew ((On.refl W4).alloc _)
  have oVa : Va.ownsRow W4.heap.size 5 1 (.slice (some ⟨W4.heap.size, 0, none⟩) 0 0) ([] : List UInt8).length (([] : List UInt8).flatMap byteC) := by rw [hVa]; exact World.ownsRow_made W4 #[] 0 (Nat.le_refl _) (Nat.zero_le _) rfl
  clear hVa
  refine hK.out _ _ (fun _ => kVa) ?_
  clear hK
  refine fin_one 4 rfl rfl (by kernel_rfl) (fun K hK => ?_)
  refine wp_append_rdb (Operand.tmp 42) (Operand.tmp 45) rfl (m := k) (Y := D.take k) (by rw [List.length_take]; omega) rfl rfl oVa (HR1.out.on kVa) (by rw [List.length_take]; simp; omega) kVa.size ?_
  intro v46 Vb own46 hg46
  rw [List.nil_append] at own46
  have kVb : On W4 Vb := On.grown kVa hg46 (fun g hg => (oVa.lt g hg).1)
  refine hK.out _ _ (fun _ => kVb) ?_
  clear hK
  simp only [Act.put, List.setIfInBounds_toArray, List.set_cons_zero, List.set_cons_succ]
  refine fin_one 9 rfl rfl (by kernel_rfl) (fun K hK => ?_)
  refine wp_append_rdb (Operand.tmp 46) (Operand.tmp 50) rfl (m := n - (k + 1)) (Y := D.drop (k + 1)) (by rw [List.length_drop, hDl]) rfl rfl own46 (HR2.out.on kVb) (by rw [List.length_take, List.length_drop]; omega) kVb.size ?_
  intro v51 Vc own51 hg51
  have kVc : On W4 Vc := On.grown kVb hg51 (fun g hg => (own46.lt g hg).1)
  have HEl : Hid ((D.take k ++ D.drop (k + 1)).length = n - 1) := by show _ = _; rw [List.length_append, List.length_take, List.length_drop]; omega
  have hE1 : 0 < (D.take k ++ D.drop (k + 1)).length := by rw [HEl.out]; omega
  have hE4 : (D.take k ++ D.drop (k + 1)).length ≤ 4000 := by rw [HEl.out]; omega
  generalize D.take k ++ D.drop (k + 1) = E at *
  obtain ⟨g5, cap5, hv51, hc5, _, hg5, _⟩ := own_cells own51 hE1
  subst hv51
  refine hK.out _ _ (fun _ => kVc) ?_
  clear hK
  simp only [Act.put, List.setIfInBounds_toArray, List.set_cons_zero, List.set_cons_succ]
  refine fin_take 10 (v := ?_) rfl (by kernel_rfl) (by kernel_rfl) (by kernel_rfl) (by kernel_rfl) (fun _ _ _ h => h) rfl ?_ kVc ?_
  rotate_left
  · intro W hW
    go_simp
    (try with_reducible rfl)
  simp only [Act.put, List.setIfInBounds_toArray, List.set_cons_zero, List.set_cons_succ]
  refine fin_done (by kernel_rfl) (NoPanic.normal ?_)
  have RE : Rd byteC 1 Vc (.slice (some ⟨g5, 0, none⟩) E.length cap5) E := Rd.own (fun _ => rfl) own51
  clear own46 own51 hg46 hg51 oVa kVa kVb HR1 HR2 RB4 HA hk1 hk2 hi1 hi2 hDl
  have KVc := KW4.trans kVc
  obtain ⟨z, hz16, hz⟩ := low4 c
  obtain ⟨n1, hn1⟩ : ∃ n1, n1 = E.length := ⟨_, rfl⟩
  rw [← hn1] at hE4 hE1 hc5
  obtain ⟨m', hm', hm1, hm2⟩ := rem_at z (n1 + 1) (by omega)
  rw [show ((n1 + 1 : Nat) : Int) = (n1 : Int) + 1 from rfl] at hm1 hm2
  obtain ⟨e, he⟩ : ∃ e : Nat, (n1 : Int) - (m' : Int) = (e : Int) := ⟨n1 - m', by omega⟩
  have hen : e ≤ n1 := by omega
  have he4 : e ≤ 4000 := by omega
  have hec : e ≤ cap5 := by omega
  have RF := rdb_take RE e (by omega)
  have hFl : (E.take e).length = e := by rw [List.length_take]; omega
  generalize E.take e = F at *
  rw [← hn1]
  rw [hFl] at RF
  have HF : Hid (F.length = e) := hFl
  clear hn1 RE HEl hFl
  go_upto_region 9 with fail
  obtain ⟨S, hS⟩ : ∃ S : ByteArray, S = ⟨F.toArray⟩ := ⟨_, rfl⟩
  have hSz : S.size = e := by rw [hS]; show F.toArray.size = e; rw [List.size_toArray]; exact HF.out
  have hcv := fun W (k : On Vc W) => conv_rdb (B := F) (by rw [HF.out]; exact RF.on k)
  rw [HF.out, ← hS] at hcv
  have hpa := fun W (k : On w W) => parse_at S (by omega) W (lw.on k)
  have hta := fun W => tree_at S (by omega) W
  have hpl := Go.Proofs.YtacflahkofmcpaaGreatDoor.parse_place S
  rw [hSz] at hpl
  generalize (parseP S).1 = V at *
  generalize (parseP S).2.1 = c' at *
  generalize (parseP S).2.2 = p' at *
  have hAw := fun W (k : On w W) => Go.Proofs.YtacflahkofmcpaaGreatDoor.awake_any W (lw.on k)
  have hsm := fun W v v' b b' (h : Go.Proofs.YtacflahkofmcpaaGreatDoor.TestAt W b v V) (h' : Go.Proofs.YtacflahkofmcpaaGreatDoor.TestAt W b' v' V) => Go.Proofs.YtacflahkofmcpaaGreatDoor.same_is W V v v' b b' h h'
  clear hS hSz RF HF
  have hcv0 := hcv Vc (On.refl Vc)
  go_wp2_with fail
  refine (hpa _ KVc).mono ?_
  rintro _ w5 ⟨un, u1, v1, x1, u2, v2, x2, uk, u3, v3, x3, rfl, RV5, k5'⟩
  have k5 : On _ w5 := k5'
  clear hcv0 hpa
  have K5 := KVc.trans k5
  obtain ⟨WZ, hWZ⟩ : ∃ WZ, WZ = (w5.alloc (.cells #[.string un, .slice u1 v1 x1, .slice u2 v2 x2, .int .i64 uk, .slice u3 v3 x3] 28)).alloc (.cells #[.int .i64 c', .int .i64 p'] 36) := ⟨_, rfl⟩
  go_upto_region 10 with fail
  rw [← hWZ]
  have kZ : On w5 WZ := by rw [hWZ]; exact ((On.refl w5).alloc _).alloc _
  have VZ : Bk WZ w5.heap.size #[.string un, .slice u1 v1 x1, .slice u2 v2 x2, .int .i64 uk, .slice u3 v3 x3] := by rw [hWZ]; exact (Bk.new w5 _ _).alloc _
  have EZ : Bk WZ (w5.heap.size + 1) #[.int .i64 c', .int .i64 p'] := by
    rw [hWZ]
    have := Bk.new (w5.alloc (.cells #[.string un, .slice u1 v1 x1, .slice u2 v2 x2, .int .i64 uk, .slice u3 v3 x3] 28)) #[.int .i64 c', .int .i64 p'] 36
    rwa [World.size_alloc] at this
  have RVZ := RV5.on kZ
  have KZ := K5.trans kZ
  have hcv1 := hcv WZ (k5.trans kZ)
  clear hWZ kZ RV5
  go_wp2_with fail
  refine (hta _).mono ?_
  rintro _ w6 ⟨mn, m1, n1', y1, m2, n2', y2, mk, m3, n3, y3, rfl, RW6, k6'⟩
  have k6 : On _ w6 := k6'
  clear hcv1 hta hcv
  have K6 := KZ.trans k6
  obtain ⟨WQ, hWQ⟩ : ∃ WQ, WQ = (w6.alloc (.cells #[.string mn, .slice m1 n1' y1, .slice m2 n2' y2, .int .i64 mk, .slice m3 n3 y3] 28)).alloc (.cells #[.int .i64 c', .int .i64 p'] 36) := ⟨_, rfl⟩
  go_upto_region 11 with fail
  rw [← hWQ]
  have kQ : On w6 WQ := by rw [hWQ]; exact ((On.refl w6).alloc _).alloc _
  have WB : Bk WQ w6.heap.size #[.string mn, .slice m1 n1' y1, .slice m2 n2' y2, .int .i64 mk, .slice m3 n3 y3] := by rw [hWQ]; exact (Bk.new w6 _ _).alloc _
  have EQ : Bk WQ (w6.heap.size + 1) #[.int .i64 c', .int .i64 p'] := by
    rw [hWQ]
    have := Bk.new (w6.alloc (.cells #[.string mn, .slice m1 n1' y1, .slice m2 n2' y2, .int .i64 mk, .slice m3 n3 y3] 28)) #[.int .i64 c', .int .i64 p'] 36
    rwa [World.size_alloc] at this
  have kzq := k6.trans kQ
  have VQ := VZ.on kzq
  have EZQ := EZ.on kzq
  have RVQ := RVZ.on kzq
  have RWQ := RW6.on kQ
  have KQ := K6.trans kQ
  clear hWQ kQ VZ EZ RVZ RW6
  have X0 := VQ.at (i := 0) rfl
  have X1 := VQ.at (i := 1) rfl
  have X2 := VQ.at (i := 2) rfl
  have X3 := VQ.at (i := 3) rfl
  have X4 := VQ.at (i := 4) rfl
  have Xl := VQ.lt
  have Y0 := WB.at (i := 0) rfl
  have Y1 := WB.at (i := 1) rfl
  have Y2 := WB.at (i := 2) rfl
  have Y3 := WB.at (i := 3) rfl
  have Y4 := WB.at (i := 4) rfl
  have Yl := WB.lt
  have z0 := EZQ.at (i := 0) rfl
  have z1 := EZQ.at (i := 1) rfl
  have zl := EZQ.lt
  have v0 := EQ.at (i := 0) rfl
  have v1 := EQ.at (i := 1) rfl
  have vl := EQ.lt
  have hcc : ((c' : Int) == c') = true := beq_self_eq_true _
  have hpp : ((p' : Int) == p') = true := beq_self_eq_true _
  go_wp2_with fail
  refine (hsm WQ _ _ _ _ RVQ RWQ).mono ?_
  rintro _ w8 ⟨rfl, k8⟩
  clear X0 X1 X2 X3 X4 Xl Y0 Y1 Y2 Y3 Y4 Yl z0 z1 zl v0 v1 vl
  have K8 := KQ.trans k8
  have EZ8 := EZQ.on k8
  have q0 := EZ8.at (i := 0) rfl
  have q1 := EZ8.at (i := 1) rfl
  have ql := EZ8.lt
  have hpb : decide ((p' : Int) ≤ (e : Int)) = true := by rw [decide_eq_true_eq]; omega
  go_wp2_with fail
  refine (hAw _ K8).mono ?_
  rintro _ wz ⟨rfl, kz⟩
  go_wp2
  go_ret
  exact ⟨rfl, K8.trans kz⟩
end Go.Proofs.YtacflahkofmcpaaGreatDoor.Wl
