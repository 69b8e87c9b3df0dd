/- What the document's own Next answers. -/
import Derived.Test.YtacflahkofmcpaaGreatDoorJ02Canon
import Derived.Test.YtacflahkofmcpaaGreatDoorJ04LexBase
import Derived.Test.YtacflahkofmcpaaGreatDoorJ06LexAllW
namespace Go.Proofs.YtacflahkofmcpaaGreatDoor
open Go.RowKit

theorem results_c3 {fn : Func} {p u q : Tmp} {tp tq : TypeId} (h : fn.results = #[.cell p tp, .tmp u, .cell q tq]) (tmps : Array Value) (P : Program) (w : World) :
    (results fn tmps).run P w =
      ((asAddr (tmps.getD p undef)).run P w).andThen fun a w₁ => ((loadVar tp a).run P w₁).andThen fun v w₂ => ((asAddr (tmps.getD q undef)).run P w₂).andThen fun a' w₃ => ((loadVar tq a').run P w₃).andThen fun v' w₄ => .ok (.tuple #[v, tmps.getD u undef, v']) w₄ := by
  simp only [results, h]
  simp [Sem.run_bind, Result.andThen]

section
variable (s : ByteArray) (a p : Nat) (w : World)
set_option maxHeartbeats 2000000
set_option maxRecDepth 10000

theorem rn_end (hp : p = s.size)
    (hS : ∀ w1, Calls Tryz.prog 126 #[.string s, .int .i64 a] w1 fun e w' => e = .returned (.int .i64 p) ∧ On w1 w') :
    Calls Tryz.prog 86 #[.string s, .int .i64 a] w fun e w' => e = .returned (.tuple #[.agg #[.int .i64 4, .string ⟨#[]⟩, .int .i64 p], .int .i64 p, .agg #[.int .i64 0, .int .i64 0]]) ∧ On w w' := by
  have hR0 := Rs.new w
  have hw0 : On w ((w.alloc (.cells #[.int .i64 0, .string ⟨#[]⟩, .int .i64 0] 71)).alloc (.cells #[.int .i64 0, .int .i64 0] 36)) := ((On.refl w).alloc _).alloc _
  have e1 : ((p : Int) == (s.size : Int)) = true := by rw [hp]; simp
  clear hp
  go_enter Tryz.func86, Tryz.ntmps86
  go_wp2_with (go_at_call 126; refine (hS _).mono ?_; rintro e w1 ⟨rfl, hw1⟩; have hR1 := hR0.on hw1; have t0 := hR1.t0; have t1 := hR1.t1; have t2 := hR1.t2; have e0 := hR1.e0; have e1' := hR1.e1; have ft0 := hR1.ft 0; have ft1 := hR1.ft 1; have ft2 := hR1.ft 2; have fe0 := hR1.fe 0; have fe1 := hR1.fe 1)
  (try simp only [Exit.inBlock, Exit.then])
  refine bodyPost_ret (v := .tuple #[.agg #[.int .i64 4, .string ⟨#[]⟩, .int .i64 p], .int .i64 p, .agg #[.int .i64 0, .int .i64 0]]) ?_ rfl ⟨rfl, ?_⟩
  · rw [results_c3 rfl]
    go_simp
  · exact (((((hw0.trans hw1).setNew (Nat.le_refl _) _).setNew (Nat.le_refl _) _).setNew (Nat.le_refl _) _).setNew (Nat.le_succ _) _).setNew (Nat.le_succ _) _

theorem rn_word (hs : s.size ≤ 140737488351232) (hp : p < s.size) (hl : letN (bN s p) = true)
    (hS : ∀ w1, Calls Tryz.prog 126 #[.string s, .int .i64 a] w1 fun e w' => e = .returned (.int .i64 p) ∧ On w1 w') :
    Calls Tryz.prog 86 #[.string s, .int .i64 a] w fun e w' => e = .returned (.tuple #[.agg #[.int .i64 1, .string (s.extract p (p + 1 + runL (suf s (p + 1)))), .int .i64 p], .int .i64 ((p + 1 + runL (suf s (p + 1)) : Nat) : Int), .agg #[.int .i64 0, .int .i64 0]]) ∧ On w w' := by
  have hR0 := Rs.new w
  have hw0 : On w ((w.alloc (.cells #[.int .i64 0, .string ⟨#[]⟩, .int .i64 0] 71)).alloc (.cells #[.int .i64 0, .int .i64 0] 36)) := ((On.refl w).alloc _).alloc _
  have e1 : ((p : Int) == (s.size : Int)) = false := by rw [beq_eq_false_iff_ne]; omega
  obtain ⟨T, hT⟩ : ∃ T, p + 1 + runL (suf s (p + 1)) = T := ⟨_, rfl⟩
  rw [hT]
  have HT : Hid (p + 1 + runL (suf s (p + 1)) = T) := hT
  obtain ⟨c, hc⟩ : ∃ c, (s[p]'hp).toNat = c := ⟨_, rfl⟩
  rw [bN_lt hp, hc] at hl
  have hL : ∀ w1, Calls Tryz.prog 110 #[.int .u8 c] w1 fun e w' => e = .returned (.bool true) ∧ w' = w1 := fun w1 => by have := rletter_is c w1; rw [hl] at this; exact this
  clear hT hl
  go_enter Tryz.func86, Tryz.ntmps86
  go_wp2_with (first | (go_at_call 126; refine (hS _).mono ?_; rintro e w1 ⟨rfl, hw1⟩) | (go_at_call 110; refine (hL _).mono ?_; rintro e w2 ⟨rfl, rfl⟩))
  have hR1 := hR0.on hw1
  have hon1 := hw0.trans hw1
  clear hR0 hw0 hw1 hL hS
  go_loopg [9] (s.size - (p + 1)) (fun k v wx => ∃ t : Nat, v = .int .i64 t ∧ k = s.size - t ∧ p + 1 ≤ t ∧ t ≤ s.size ∧ t + runL (suf s t) = T ∧ Rs wx w.heap.size ∧ On w wx)
  case atStart => exact ⟨p + 1, by go_num, rfl, Nat.le_refl _, by omega, HT.out, hR1, hon1⟩
  case round =>
    obtain ⟨t, rfl, hk, hpt, hts, hg, hR, hon⟩ := hrel
    have HG : Hid (t + runL (suf s t) = T) := hg
    clear hg hR1 hon1
    have t0 := hR.t0
    have t1 := hR.t1
    have t2 := hR.t2
    have e0 := hR.e0
    have e1' := hR.e1
    have ft0 := hR.ft 0
    have ft1 := hR.ft 1
    have ft2 := hR.ft 2
    have fe0 := hR.fe 0
    have fe1 := hR.fe 1
    by_cases hlt : t < s.size
    · obtain ⟨d, hd⟩ : ∃ d, (s[t]'hlt).toNat = d := ⟨_, rfl⟩
      have HD : Hid (bN s t = d) := (bN_lt hlt).trans hd
      have hLt : ∀ w1, Calls Tryz.prog 110 #[.int .u8 d] w1 fun e w' => e = .returned (.bool (letN d)) ∧ w' = w1 := fun w1 => rletter_is d w1
      have hDg : ∀ w1, Calls Tryz.prog 111 #[.int .u8 d] w1 fun e w' => e = .returned (.bool (digN d)) ∧ w' = w1 := fun w1 => rdigit_is d w1
      by_cases h1 : letN d = true
      · rw [h1] at hLt
        have hw : wordN (bN s t) = true := by rw [HD.out]; unfold wordN; rw [h1]; rfl
        have HW : Hid (wordN (bN s t) = true) := hw
        clear hw h1
        go_wp2_with (first | (go_at_call 110; refine (hLt _).mono ?_; rintro e w2 ⟨rfl, rfl⟩) | (go_at_call 111; refine (hDg _).mono ?_; rintro e w2 ⟨rfl, rfl⟩))
        go_roundg (s.size - (t + 1))
        case measure => omega
        case rel => exact ⟨t + 1, by go_num, rfl, by omega, by omega, by rw [← HG.out, run_on HW.out]; omega, hR, hon⟩
      · have h1' : letN d = false := by simpa using h1
        rw [h1'] at hLt
        by_cases h2 : digN d = true
        · rw [h2] at hDg
          have hw : wordN (bN s t) = true := by rw [HD.out]; unfold wordN; rw [h2]; simp
          have HW : Hid (wordN (bN s t) = true) := hw
          clear hw h1 h1' h2
          go_wp2_with (first | (go_at_call 110; refine (hLt _).mono ?_; rintro e w2 ⟨rfl, rfl⟩) | (go_at_call 111; refine (hDg _).mono ?_; rintro e w2 ⟨rfl, rfl⟩))
          go_roundg (s.size - (t + 1))
          case measure => omega
          case rel => exact ⟨t + 1, by go_num, rfl, by omega, by omega, by rw [← HG.out, run_on HW.out]; omega, hR, hon⟩
        · have h2' : digN d = false := by simpa using h2
          rw [h2'] at hDg
          have hw : wordN (bN s t) = false := by rw [HD.out]; unfold wordN; rw [h1', h2']; rfl
          have eT : T = t := by rw [← HG.out, run_off hw]; rfl
          subst eT
          clear hw h1 h1' h2 h2'
          go_wp2_with (first | (go_at_call 110; refine (hLt _).mono ?_; rintro e w2 ⟨rfl, rfl⟩) | (go_at_call 111; refine (hDg _).mono ?_; rintro e w2 ⟨rfl, rfl⟩))
          (try simp only [Exit.inBlock, Exit.then])
          refine bodyPost_ret (v := .tuple #[.agg #[.int .i64 1, .string (s.extract p T), .int .i64 p], .int .i64 T, .agg #[.int .i64 0, .int .i64 0]]) ?_ rfl ⟨rfl, ?_⟩
          · rw [results_c3 rfl]
            go_simp
          · exact ((((hon.setNew (Nat.le_refl _) _).setNew (Nat.le_refl _) _).setNew (Nat.le_refl _) _).setNew (Nat.le_succ _) _).setNew (Nat.le_succ _) _
    · have eT : T = t := by rw [← HG.out, suf_ge (by omega)]; rfl
      subst eT
      go_wp2
      (try simp only [Exit.inBlock, Exit.then])
      refine bodyPost_ret (v := .tuple #[.agg #[.int .i64 1, .string (s.extract p T), .int .i64 p], .int .i64 T, .agg #[.int .i64 0, .int .i64 0]]) ?_ rfl ⟨rfl, ?_⟩
      · rw [results_c3 rfl]
        go_simp
      · exact ((((hon.setNew (Nat.le_refl _) _).setNew (Nat.le_refl _) _).setNew (Nat.le_refl _) _).setNew (Nat.le_succ _) _).setNew (Nat.le_succ _) _

theorem rn_dig (hs : s.size ≤ 140737488351232) (hp : p < s.size) (hl : letN (bN s p) = false) (hdg : digN (bN s p) = true) (hx : pB (s.extract p (p + 1 + runL (suf s (p + 1)))) = true)
    (hS : ∀ w1, Calls Tryz.prog 126 #[.string s, .int .i64 a] w1 fun e w' => e = .returned (.int .i64 p) ∧ On w1 w') :
    Calls Tryz.prog 86 #[.string s, .int .i64 a] w fun e w' => e = .returned (.tuple #[.agg #[.int .i64 2, .string (s.extract p (p + 1 + runL (suf s (p + 1)))), .int .i64 p], .int .i64 ((p + 1 + runL (suf s (p + 1)) : Nat) : Int), .agg #[.int .i64 0, .int .i64 0]]) ∧ On w w' := by
  have hR0 := Rs.new w
  have hw0 : On w ((w.alloc (.cells #[.int .i64 0, .string ⟨#[]⟩, .int .i64 0] 71)).alloc (.cells #[.int .i64 0, .int .i64 0] 36)) := ((On.refl w).alloc _).alloc _
  have e1 : ((p : Int) == (s.size : Int)) = false := by rw [beq_eq_false_iff_ne]; omega
  obtain ⟨T, hT⟩ : ∃ T, p + 1 + runL (suf s (p + 1)) = T := ⟨_, rfl⟩
  rw [hT] at hx ⊢
  have HT : Hid (p + 1 + runL (suf s (p + 1)) = T) := hT
  obtain ⟨c, hc⟩ : ∃ c, (s[p]'hp).toNat = c := ⟨_, rfl⟩
  rw [bN_lt hp, hc] at hl hdg
  have hL : ∀ w1, Calls Tryz.prog 110 #[.int .u8 c] w1 fun e w' => e = .returned (.bool false) ∧ w' = w1 := fun w1 => by have := rletter_is c w1; rw [hl] at this; exact this
  have hG : ∀ w1, Calls Tryz.prog 111 #[.int .u8 c] w1 fun e w' => e = .returned (.bool true) ∧ w' = w1 := fun w1 => by have := rdigit_is c w1; rw [hdg] at this; exact this
  have HX : Hid (pB (s.extract p T) = true) := hx
  have hTs : T ≤ s.size := by rw [← HT.out]; exact run_le s (by omega)
  have hPT : p ≤ T := by rw [← HT.out]; omega
  have hP : ∀ w1, Calls Tryz.prog 82 #[.string (s.extract p T)] w1 fun e w' => ∃ x : Int, e = .returned (.tuple #[.int .i64 x, .bool true]) ∧ w' = w1 := fun w1 => by
    have := rparse_is (s.extract p T) (by rw [ByteArray.size_extract]; omega) w1
    rw [HX.out] at this
    exact this
  clear hT hl hdg hx
  go_enter Tryz.func86, Tryz.ntmps86
  go_wp2_with (first | (go_at_call 126; refine (hS _).mono ?_; rintro e w1 ⟨rfl, hw1⟩) | (go_at_call 110; refine (hL _).mono ?_; rintro e w2 ⟨rfl, rfl⟩) | (go_at_call 111; refine (hG _).mono ?_; rintro e w2 ⟨rfl, rfl⟩))
  clear hG
  have hR1 := hR0.on hw1
  have hon1 := hw0.trans hw1
  clear hR0 hw0 hw1 hL hS
  go_loopg [9] (s.size - (p + 1)) (fun k v wx => ∃ t : Nat, v = .int .i64 t ∧ k = s.size - t ∧ p + 1 ≤ t ∧ t ≤ s.size ∧ t + runL (suf s t) = T ∧ Rs wx w.heap.size ∧ On w wx)
  case atStart => exact ⟨p + 1, by go_num, rfl, Nat.le_refl _, by omega, HT.out, hR1, hon1⟩
  case round =>
    obtain ⟨t, rfl, hk, hpt, hts, hg, hR, hon⟩ := hrel
    have HG : Hid (t + runL (suf s t) = T) := hg
    clear hg hR1 hon1
    have t0 := hR.t0
    have t1 := hR.t1
    have t2 := hR.t2
    have e0 := hR.e0
    have e1' := hR.e1
    have ft0 := hR.ft 0
    have ft1 := hR.ft 1
    have ft2 := hR.ft 2
    have fe0 := hR.fe 0
    have fe1 := hR.fe 1
    by_cases hlt : t < s.size
    · obtain ⟨d, hd⟩ : ∃ d, (s[t]'hlt).toNat = d := ⟨_, rfl⟩
      have HD : Hid (bN s t = d) := (bN_lt hlt).trans hd
      have hLt : ∀ w1, Calls Tryz.prog 110 #[.int .u8 d] w1 fun e w' => e = .returned (.bool (letN d)) ∧ w' = w1 := fun w1 => rletter_is d w1
      have hDg : ∀ w1, Calls Tryz.prog 111 #[.int .u8 d] w1 fun e w' => e = .returned (.bool (digN d)) ∧ w' = w1 := fun w1 => rdigit_is d w1
      by_cases h1 : letN d = true
      · rw [h1] at hLt
        have hw : wordN (bN s t) = true := by rw [HD.out]; unfold wordN; rw [h1]; rfl
        have HW : Hid (wordN (bN s t) = true) := hw
        clear hw h1
        go_wp2_with (first | (go_at_call 110; refine (hLt _).mono ?_; rintro e w2 ⟨rfl, rfl⟩) | (go_at_call 111; refine (hDg _).mono ?_; rintro e w2 ⟨rfl, rfl⟩))
        go_roundg (s.size - (t + 1))
        case measure => omega
        case rel => exact ⟨t + 1, by go_num, rfl, by omega, by omega, by rw [← HG.out, run_on HW.out]; omega, hR, hon⟩
      · have h1' : letN d = false := by simpa using h1
        rw [h1'] at hLt
        by_cases h2 : digN d = true
        · rw [h2] at hDg
          have hw : wordN (bN s t) = true := by rw [HD.out]; unfold wordN; rw [h2]; simp
          have HW : Hid (wordN (bN s t) = true) := hw
          clear hw h1 h1' h2
          go_wp2_with (first | (go_at_call 110; refine (hLt _).mono ?_; rintro e w2 ⟨rfl, rfl⟩) | (go_at_call 111; refine (hDg _).mono ?_; rintro e w2 ⟨rfl, rfl⟩))
          go_roundg (s.size - (t + 1))
          case measure => omega
          case rel => exact ⟨t + 1, by go_num, rfl, by omega, by omega, by rw [← HG.out, run_on HW.out]; omega, hR, hon⟩
        · have h2' : digN d = false := by simpa using h2
          rw [h2'] at hDg
          have hw : wordN (bN s t) = false := by rw [HD.out]; unfold wordN; rw [h1', h2']; rfl
          have eT : T = t := by rw [← HG.out, run_off hw]; rfl
          subst eT
          clear hw h1 h1' h2 h2'
          go_wp2_with (first | (go_at_call 82; refine (hP _).mono ?_; rintro e w3 ⟨xx, rfl, rfl⟩) | (go_at_call 110; refine (hLt _).mono ?_; rintro e w2 ⟨rfl, rfl⟩) | (go_at_call 111; refine (hDg _).mono ?_; rintro e w2 ⟨rfl, rfl⟩))
          (try simp only [Exit.inBlock, Exit.then])
          refine bodyPost_ret (v := .tuple #[.agg #[.int .i64 2, .string (s.extract p T), .int .i64 p], .int .i64 T, .agg #[.int .i64 0, .int .i64 0]]) ?_ rfl ⟨rfl, ?_⟩
          · rw [results_c3 rfl]
            go_simp
          · exact ((((hon.setNew (Nat.le_refl _) _).setNew (Nat.le_refl _) _).setNew (Nat.le_refl _) _).setNew (Nat.le_succ _) _).setNew (Nat.le_succ _) _
    · have eT : T = t := by rw [← HG.out, suf_ge (by omega)]; rfl
      subst eT
      go_wp2_with (go_at_call 82; refine (hP _).mono ?_; rintro e w3 ⟨xx, rfl, rfl⟩)
      (try simp only [Exit.inBlock, Exit.then])
      refine bodyPost_ret (v := .tuple #[.agg #[.int .i64 2, .string (s.extract p T), .int .i64 p], .int .i64 T, .agg #[.int .i64 0, .int .i64 0]]) ?_ rfl ⟨rfl, ?_⟩
      · rw [results_c3 rfl]
        go_simp
      · exact ((((hon.setNew (Nat.le_refl _) _).setNew (Nat.le_refl _) _).setNew (Nat.le_refl _) _).setNew (Nat.le_succ _) _).setNew (Nat.le_succ _) _

theorem rn_digbad (hs : s.size ≤ 140737488351232) (hp : p < s.size) (hl : letN (bN s p) = false) (hdg : digN (bN s p) = true) (hx : pB (s.extract p (p + 1 + runL (suf s (p + 1)))) = false)
    (hS : ∀ w1, Calls Tryz.prog 126 #[.string s, .int .i64 a] w1 fun e w' => e = .returned (.int .i64 p) ∧ On w1 w') :
    Calls Tryz.prog 86 #[.string s, .int .i64 a] w fun e w' => e = .returned (.tuple #[.agg #[.int .i64 0, .string ⟨#[]⟩, .int .i64 0], .int .i64 p, .agg #[.int .i64 5, .int .i64 p]]) ∧ On w w' := by
  have hR0 := Rs.new w
  have hw0 : On w ((w.alloc (.cells #[.int .i64 0, .string ⟨#[]⟩, .int .i64 0] 71)).alloc (.cells #[.int .i64 0, .int .i64 0] 36)) := ((On.refl w).alloc _).alloc _
  have e1 : ((p : Int) == (s.size : Int)) = false := by rw [beq_eq_false_iff_ne]; omega
  obtain ⟨T, hT⟩ : ∃ T, p + 1 + runL (suf s (p + 1)) = T := ⟨_, rfl⟩
  rw [hT] at hx
  have HT : Hid (p + 1 + runL (suf s (p + 1)) = T) := hT
  obtain ⟨c, hc⟩ : ∃ c, (s[p]'hp).toNat = c := ⟨_, rfl⟩
  rw [bN_lt hp, hc] at hl hdg
  have hL : ∀ w1, Calls Tryz.prog 110 #[.int .u8 c] w1 fun e w' => e = .returned (.bool false) ∧ w' = w1 := fun w1 => by have := rletter_is c w1; rw [hl] at this; exact this
  have hG : ∀ w1, Calls Tryz.prog 111 #[.int .u8 c] w1 fun e w' => e = .returned (.bool true) ∧ w' = w1 := fun w1 => by have := rdigit_is c w1; rw [hdg] at this; exact this
  have HX : Hid (pB (s.extract p T) = false) := hx
  have hTs : T ≤ s.size := by rw [← HT.out]; exact run_le s (by omega)
  have hPT : p ≤ T := by rw [← HT.out]; omega
  have hP : ∀ w1, Calls Tryz.prog 82 #[.string (s.extract p T)] w1 fun e w' => ∃ x : Int, e = .returned (.tuple #[.int .i64 x, .bool false]) ∧ w' = w1 := fun w1 => by
    have := rparse_is (s.extract p T) (by rw [ByteArray.size_extract]; omega) w1
    rw [HX.out] at this
    exact this
  clear hT hl hdg hx
  go_enter Tryz.func86, Tryz.ntmps86
  go_wp2_with (first | (go_at_call 126; refine (hS _).mono ?_; rintro e w1 ⟨rfl, hw1⟩) | (go_at_call 110; refine (hL _).mono ?_; rintro e w2 ⟨rfl, rfl⟩) | (go_at_call 111; refine (hG _).mono ?_; rintro e w2 ⟨rfl, rfl⟩))
  clear hG
  have hR1 := hR0.on hw1
  have hon1 := hw0.trans hw1
  clear hR0 hw0 hw1 hL hS
  go_loopg [9] (s.size - (p + 1)) (fun k v wx => ∃ t : Nat, v = .int .i64 t ∧ k = s.size - t ∧ p + 1 ≤ t ∧ t ≤ s.size ∧ t + runL (suf s t) = T ∧ Rs wx w.heap.size ∧ On w wx)
  case atStart => exact ⟨p + 1, by go_num, rfl, Nat.le_refl _, by omega, HT.out, hR1, hon1⟩
  case round =>
    obtain ⟨t, rfl, hk, hpt, hts, hg, hR, hon⟩ := hrel
    have HG : Hid (t + runL (suf s t) = T) := hg
    clear hg hR1 hon1
    have t0 := hR.t0
    have t1 := hR.t1
    have t2 := hR.t2
    have e0 := hR.e0
    have e1' := hR.e1
    have ft0 := hR.ft 0
    have ft1 := hR.ft 1
    have ft2 := hR.ft 2
    have fe0 := hR.fe 0
    have fe1 := hR.fe 1
    by_cases hlt : t < s.size
    · obtain ⟨d, hd⟩ : ∃ d, (s[t]'hlt).toNat = d := ⟨_, rfl⟩
      have HD : Hid (bN s t = d) := (bN_lt hlt).trans hd
      have hLt : ∀ w1, Calls Tryz.prog 110 #[.int .u8 d] w1 fun e w' => e = .returned (.bool (letN d)) ∧ w' = w1 := fun w1 => rletter_is d w1
      have hDg : ∀ w1, Calls Tryz.prog 111 #[.int .u8 d] w1 fun e w' => e = .returned (.bool (digN d)) ∧ w' = w1 := fun w1 => rdigit_is d w1
      by_cases h1 : letN d = true
      · rw [h1] at hLt
        have hw : wordN (bN s t) = true := by rw [HD.out]; unfold wordN; rw [h1]; rfl
        have HW : Hid (wordN (bN s t) = true) := hw
        clear hw h1
        go_wp2_with (first | (go_at_call 110; refine (hLt _).mono ?_; rintro e w2 ⟨rfl, rfl⟩) | (go_at_call 111; refine (hDg _).mono ?_; rintro e w2 ⟨rfl, rfl⟩))
        go_roundg (s.size - (t + 1))
        case measure => omega
        case rel => exact ⟨t + 1, by go_num, rfl, by omega, by omega, by rw [← HG.out, run_on HW.out]; omega, hR, hon⟩
      · have h1' : letN d = false := by simpa using h1
        rw [h1'] at hLt
        by_cases h2 : digN d = true
        · rw [h2] at hDg
          have hw : wordN (bN s t) = true := by rw [HD.out]; unfold wordN; rw [h2]; simp
          have HW : Hid (wordN (bN s t) = true) := hw
          clear hw h1 h1' h2
          go_wp2_with (first | (go_at_call 110; refine (hLt _).mono ?_; rintro e w2 ⟨rfl, rfl⟩) | (go_at_call 111; refine (hDg _).mono ?_; rintro e w2 ⟨rfl, rfl⟩))
          go_roundg (s.size - (t + 1))
          case measure => omega
          case rel => exact ⟨t + 1, by go_num, rfl, by omega, by omega, by rw [← HG.out, run_on HW.out]; omega, hR, hon⟩
        · have h2' : digN d = false := by simpa using h2
          rw [h2'] at hDg
          have hw : wordN (bN s t) = false := by rw [HD.out]; unfold wordN; rw [h1', h2']; rfl
          have eT : T = t := by rw [← HG.out, run_off hw]; rfl
          subst eT
          clear hw h1 h1' h2 h2'
          go_wp2_with (first | (go_at_call 82; refine (hP _).mono ?_; rintro e w3 ⟨xx, rfl, rfl⟩) | (go_at_call 110; refine (hLt _).mono ?_; rintro e w2 ⟨rfl, rfl⟩) | (go_at_call 111; refine (hDg _).mono ?_; rintro e w2 ⟨rfl, rfl⟩))
          (try simp only [Exit.inBlock, Exit.then])
          refine bodyPost_ret (v := .tuple #[.agg #[.int .i64 0, .string ⟨#[]⟩, .int .i64 0], .int .i64 p, .agg #[.int .i64 5, .int .i64 p]]) ?_ rfl ⟨rfl, ?_⟩
          · rw [results_c3 rfl]
            go_simp
          · exact ((((hon.setNew (Nat.le_refl _) _).setNew (Nat.le_refl _) _).setNew (Nat.le_refl _) _).setNew (Nat.le_succ _) _).setNew (Nat.le_succ _) _
    · have eT : T = t := by rw [← HG.out, suf_ge (by omega)]; rfl
      subst eT
      go_wp2_with (go_at_call 82; refine (hP _).mono ?_; rintro e w3 ⟨xx, rfl, rfl⟩)
      (try simp only [Exit.inBlock, Exit.then])
      refine bodyPost_ret (v := .tuple #[.agg #[.int .i64 0, .string ⟨#[]⟩, .int .i64 0], .int .i64 p, .agg #[.int .i64 5, .int .i64 p]]) ?_ rfl ⟨rfl, ?_⟩
      · rw [results_c3 rfl]
        go_simp
      · exact ((((hon.setNew (Nat.le_refl _) _).setNew (Nat.le_refl _) _).setNew (Nat.le_refl _) _).setNew (Nat.le_succ _) _).setNew (Nat.le_succ _) _

theorem rn_min (hs : s.size ≤ 140737488351232) (hp : p < s.size) (hl : letN (bN s p) = false) (hdg : digN (bN s p) = false) (h45 : bN s p = 45) (hp1 : p + 1 < s.size) (hd1 : digN (bN s (p + 1)) = true) (hx : pB (s.extract p (p + 1 + runL (suf s (p + 1)))) = true)
    (hS : ∀ w1, Calls Tryz.prog 126 #[.string s, .int .i64 a] w1 fun e w' => e = .returned (.int .i64 p) ∧ On w1 w') :
    Calls Tryz.prog 86 #[.string s, .int .i64 a] w fun e w' => e = .returned (.tuple #[.agg #[.int .i64 2, .string (s.extract p (p + 1 + runL (suf s (p + 1)))), .int .i64 p], .int .i64 ((p + 1 + runL (suf s (p + 1)) : Nat) : Int), .agg #[.int .i64 0, .int .i64 0]]) ∧ On w w' := by
  have hR0 := Rs.new w
  have hw0 : On w ((w.alloc (.cells #[.int .i64 0, .string ⟨#[]⟩, .int .i64 0] 71)).alloc (.cells #[.int .i64 0, .int .i64 0] 36)) := ((On.refl w).alloc _).alloc _
  have e1 : ((p : Int) == (s.size : Int)) = false := by rw [beq_eq_false_iff_ne]; omega
  obtain ⟨T, hT⟩ : ∃ T, p + 1 + runL (suf s (p + 1)) = T := ⟨_, rfl⟩
  rw [hT] at hx ⊢
  have HT : Hid (p + 1 + runL (suf s (p + 1)) = T) := hT
  obtain ⟨c, hc⟩ : ∃ c, (s[p]'hp).toNat = c := ⟨_, rfl⟩
  rw [bN_lt hp, hc] at hl hdg h45
  have hL : ∀ w1, Calls Tryz.prog 110 #[.int .u8 c] w1 fun e w' => e = .returned (.bool false) ∧ w' = w1 := fun w1 => by have := rletter_is c w1; rw [hl] at this; exact this
  have hG : ∀ w1, Calls Tryz.prog 111 #[.int .u8 c] w1 fun e w' => e = .returned (.bool false) ∧ w' = w1 := fun w1 => by have := rdigit_is c w1; rw [hdg] at this; exact this
  obtain ⟨c1, hc1⟩ : ∃ c1, (s[p + 1]'hp1).toNat = c1 := ⟨_, rfl⟩
  rw [bN_lt hp1, hc1] at hd1
  have hG1 : ∀ w1, Calls Tryz.prog 111 #[.int .u8 c1] w1 fun e w' => e = .returned (.bool true) ∧ w' = w1 := fun w1 => by have := rdigit_is c1 w1; rw [hd1] at this; exact this
  subst h45
  have HX : Hid (pB (s.extract p T) = true) := hx
  have hTs : T ≤ s.size := by rw [← HT.out]; exact run_le s (by omega)
  have hPT : p ≤ T := by rw [← HT.out]; omega
  have hP : ∀ w1, Calls Tryz.prog 82 #[.string (s.extract p T)] w1 fun e w' => ∃ x : Int, e = .returned (.tuple #[.int .i64 x, .bool true]) ∧ w' = w1 := fun w1 => by
    have := rparse_is (s.extract p T) (by rw [ByteArray.size_extract]; omega) w1
    rw [HX.out] at this
    exact this
  clear hT hl hdg hx
  go_enter Tryz.func86, Tryz.ntmps86
  go_wp2_with fail
  refine (hS _).mono ?_
  rintro e w1 ⟨rfl, hw1⟩
  go_wp2_with fail
  refine (hL _).mono ?_
  rintro e w2 ⟨rfl, rfl⟩
  go_wp2_with fail
  refine (hG _).mono ?_
  rintro e w2 ⟨rfl, rfl⟩
  go_wp2_with fail
  refine (hG1 _).mono ?_
  rintro e w2 ⟨rfl, rfl⟩
  go_wp2_with fail
  clear hG1
  clear hG
  have hR1 := hR0.on hw1
  have hon1 := hw0.trans hw1
  clear hR0 hw0 hw1 hL hS
  go_loopg [9] (s.size - (p + 1)) (fun k v wx => ∃ t : Nat, v = .int .i64 t ∧ k = s.size - t ∧ p + 1 ≤ t ∧ t ≤ s.size ∧ t + runL (suf s t) = T ∧ Rs wx w.heap.size ∧ On w wx)
  case atStart => exact ⟨p + 1, by go_num, rfl, Nat.le_refl _, by omega, HT.out, hR1, hon1⟩
  case round =>
    obtain ⟨t, rfl, hk, hpt, hts, hg, hR, hon⟩ := hrel
    have HG : Hid (t + runL (suf s t) = T) := hg
    clear hg hR1 hon1
    have t0 := hR.t0
    have t1 := hR.t1
    have t2 := hR.t2
    have e0 := hR.e0
    have e1' := hR.e1
    have ft0 := hR.ft 0
    have ft1 := hR.ft 1
    have ft2 := hR.ft 2
    have fe0 := hR.fe 0
    have fe1 := hR.fe 1
    by_cases hlt : t < s.size
    · obtain ⟨d, hd⟩ : ∃ d, (s[t]'hlt).toNat = d := ⟨_, rfl⟩
      have HD : Hid (bN s t = d) := (bN_lt hlt).trans hd
      have hLt : ∀ w1, Calls Tryz.prog 110 #[.int .u8 d] w1 fun e w' => e = .returned (.bool (letN d)) ∧ w' = w1 := fun w1 => rletter_is d w1
      have hDg : ∀ w1, Calls Tryz.prog 111 #[.int .u8 d] w1 fun e w' => e = .returned (.bool (digN d)) ∧ w' = w1 := fun w1 => rdigit_is d w1
      by_cases h1 : letN d = true
      · rw [h1] at hLt
        have hw : wordN (bN s t) = true := by rw [HD.out]; unfold wordN; rw [h1]; rfl
        have HW : Hid (wordN (bN s t) = true) := hw
        clear hw h1
        go_wp2_with (first | (go_at_call 110; refine (hLt _).mono ?_; rintro e w2 ⟨rfl, rfl⟩) | (go_at_call 111; refine (hDg _).mono ?_; rintro e w2 ⟨rfl, rfl⟩))
        go_roundg (s.size - (t + 1))
        case measure => omega
        case rel => exact ⟨t + 1, by go_num, rfl, by omega, by omega, by rw [← HG.out, run_on HW.out]; omega, hR, hon⟩
      · have h1' : letN d = false := by simpa using h1
        rw [h1'] at hLt
        by_cases h2 : digN d = true
        · rw [h2] at hDg
          have hw : wordN (bN s t) = true := by rw [HD.out]; unfold wordN; rw [h2]; simp
          have HW : Hid (wordN (bN s t) = true) := hw
          clear hw h1 h1' h2
          go_wp2_with (first | (go_at_call 110; refine (hLt _).mono ?_; rintro e w2 ⟨rfl, rfl⟩) | (go_at_call 111; refine (hDg _).mono ?_; rintro e w2 ⟨rfl, rfl⟩))
          go_roundg (s.size - (t + 1))
          case measure => omega
          case rel => exact ⟨t + 1, by go_num, rfl, by omega, by omega, by rw [← HG.out, run_on HW.out]; omega, hR, hon⟩
        · have h2' : digN d = false := by simpa using h2
          rw [h2'] at hDg
          have hw : wordN (bN s t) = false := by rw [HD.out]; unfold wordN; rw [h1', h2']; rfl
          have eT : T = t := by rw [← HG.out, run_off hw]; rfl
          subst eT
          clear hw h1 h1' h2 h2'
          go_wp2_with (first | (go_at_call 82; refine (hP _).mono ?_; rintro e w3 ⟨xx, rfl, rfl⟩) | (go_at_call 110; refine (hLt _).mono ?_; rintro e w2 ⟨rfl, rfl⟩) | (go_at_call 111; refine (hDg _).mono ?_; rintro e w2 ⟨rfl, rfl⟩))
          (try simp only [Exit.inBlock, Exit.then])
          refine bodyPost_ret (v := .tuple #[.agg #[.int .i64 2, .string (s.extract p T), .int .i64 p], .int .i64 T, .agg #[.int .i64 0, .int .i64 0]]) ?_ rfl ⟨rfl, ?_⟩
          · rw [results_c3 rfl]
            go_simp
          · exact ((((hon.setNew (Nat.le_refl _) _).setNew (Nat.le_refl _) _).setNew (Nat.le_refl _) _).setNew (Nat.le_succ _) _).setNew (Nat.le_succ _) _
    · have eT : T = t := by rw [← HG.out, suf_ge (by omega)]; rfl
      subst eT
      go_wp2_with (go_at_call 82; refine (hP _).mono ?_; rintro e w3 ⟨xx, rfl, rfl⟩)
      (try simp only [Exit.inBlock, Exit.then])
      refine bodyPost_ret (v := .tuple #[.agg #[.int .i64 2, .string (s.extract p T), .int .i64 p], .int .i64 T, .agg #[.int .i64 0, .int .i64 0]]) ?_ rfl ⟨rfl, ?_⟩
      · rw [results_c3 rfl]
        go_simp
      · exact ((((hon.setNew (Nat.le_refl _) _).setNew (Nat.le_refl _) _).setNew (Nat.le_refl _) _).setNew (Nat.le_succ _) _).setNew (Nat.le_succ _) _

theorem rn_minbad (hs : s.size ≤ 140737488351232) (hp : p < s.size) (hl : letN (bN s p) = false) (hdg : digN (bN s p) = false) (h45 : bN s p = 45) (hp1 : p + 1 < s.size) (hd1 : digN (bN s (p + 1)) = true) (hx : pB (s.extract p (p + 1 + runL (suf s (p + 1)))) = false)
    (hS : ∀ w1, Calls Tryz.prog 126 #[.string s, .int .i64 a] w1 fun e w' => e = .returned (.int .i64 p) ∧ On w1 w') :
    Calls Tryz.prog 86 #[.string s, .int .i64 a] w fun e w' => e = .returned (.tuple #[.agg #[.int .i64 0, .string ⟨#[]⟩, .int .i64 0], .int .i64 p, .agg #[.int .i64 5, .int .i64 p]]) ∧ On w w' := by
  have hR0 := Rs.new w
  have hw0 : On w ((w.alloc (.cells #[.int .i64 0, .string ⟨#[]⟩, .int .i64 0] 71)).alloc (.cells #[.int .i64 0, .int .i64 0] 36)) := ((On.refl w).alloc _).alloc _
  have e1 : ((p : Int) == (s.size : Int)) = false := by rw [beq_eq_false_iff_ne]; omega
  obtain ⟨T, hT⟩ : ∃ T, p + 1 + runL (suf s (p + 1)) = T := ⟨_, rfl⟩
  rw [hT] at hx
  have HT : Hid (p + 1 + runL (suf s (p + 1)) = T) := hT
  obtain ⟨c, hc⟩ : ∃ c, (s[p]'hp).toNat = c := ⟨_, rfl⟩
  rw [bN_lt hp, hc] at hl hdg h45
  have hL : ∀ w1, Calls Tryz.prog 110 #[.int .u8 c] w1 fun e w' => e = .returned (.bool false) ∧ w' = w1 := fun w1 => by have := rletter_is c w1; rw [hl] at this; exact this
  have hG : ∀ w1, Calls Tryz.prog 111 #[.int .u8 c] w1 fun e w' => e = .returned (.bool false) ∧ w' = w1 := fun w1 => by have := rdigit_is c w1; rw [hdg] at this; exact this
  obtain ⟨c1, hc1⟩ : ∃ c1, (s[p + 1]'hp1).toNat = c1 := ⟨_, rfl⟩
  rw [bN_lt hp1, hc1] at hd1
  have hG1 : ∀ w1, Calls Tryz.prog 111 #[.int .u8 c1] w1 fun e w' => e = .returned (.bool true) ∧ w' = w1 := fun w1 => by have := rdigit_is c1 w1; rw [hd1] at this; exact this
  subst h45
  have HX : Hid (pB (s.extract p T) = false) := hx
  have hTs : T ≤ s.size := by rw [← HT.out]; exact run_le s (by omega)
  have hPT : p ≤ T := by rw [← HT.out]; omega
  have hP : ∀ w1, Calls Tryz.prog 82 #[.string (s.extract p T)] w1 fun e w' => ∃ x : Int, e = .returned (.tuple #[.int .i64 x, .bool false]) ∧ w' = w1 := fun w1 => by
    have := rparse_is (s.extract p T) (by rw [ByteArray.size_extract]; omega) w1
    rw [HX.out] at this
    exact this
  clear hT hl hdg hx
  go_enter Tryz.func86, Tryz.ntmps86
  go_wp2_with fail
  refine (hS _).mono ?_
  rintro e w1 ⟨rfl, hw1⟩
  go_wp2_with fail
  refine (hL _).mono ?_
  rintro e w2 ⟨rfl, rfl⟩
  go_wp2_with fail
  refine (hG _).mono ?_
  rintro e w2 ⟨rfl, rfl⟩
  go_wp2_with fail
  refine (hG1 _).mono ?_
  rintro e w2 ⟨rfl, rfl⟩
  go_wp2_with fail
  clear hG1
  clear hG
  have hR1 := hR0.on hw1
  have hon1 := hw0.trans hw1
  clear hR0 hw0 hw1 hL hS
  go_loopg [9] (s.size - (p + 1)) (fun k v wx => ∃ t : Nat, v = .int .i64 t ∧ k = s.size - t ∧ p + 1 ≤ t ∧ t ≤ s.size ∧ t + runL (suf s t) = T ∧ Rs wx w.heap.size ∧ On w wx)
  case atStart => exact ⟨p + 1, by go_num, rfl, Nat.le_refl _, by omega, HT.out, hR1, hon1⟩
  case round =>
    obtain ⟨t, rfl, hk, hpt, hts, hg, hR, hon⟩ := hrel
    have HG : Hid (t + runL (suf s t) = T) := hg
    clear hg hR1 hon1
    have t0 := hR.t0
    have t1 := hR.t1
    have t2 := hR.t2
    have e0 := hR.e0
    have e1' := hR.e1
    have ft0 := hR.ft 0
    have ft1 := hR.ft 1
    have ft2 := hR.ft 2
    have fe0 := hR.fe 0
    have fe1 := hR.fe 1
    by_cases hlt : t < s.size
    · obtain ⟨d, hd⟩ : ∃ d, (s[t]'hlt).toNat = d := ⟨_, rfl⟩
      have HD : Hid (bN s t = d) := (bN_lt hlt).trans hd
      have hLt : ∀ w1, Calls Tryz.prog 110 #[.int .u8 d] w1 fun e w' => e = .returned (.bool (letN d)) ∧ w' = w1 := fun w1 => rletter_is d w1
      have hDg : ∀ w1, Calls Tryz.prog 111 #[.int .u8 d] w1 fun e w' => e = .returned (.bool (digN d)) ∧ w' = w1 := fun w1 => rdigit_is d w1
      by_cases h1 : letN d = true
      · rw [h1] at hLt
        have hw : wordN (bN s t) = true := by rw [HD.out]; unfold wordN; rw [h1]; rfl
        have HW : Hid (wordN (bN s t) = true) := hw
        clear hw h1
        go_wp2_with (first | (go_at_call 110; refine (hLt _).mono ?_; rintro e w2 ⟨rfl, rfl⟩) | (go_at_call 111; refine (hDg _).mono ?_; rintro e w2 ⟨rfl, rfl⟩))
        go_roundg (s.size - (t + 1))
        case measure => omega
        case rel => exact ⟨t + 1, by go_num, rfl, by omega, by omega, by rw [← HG.out, run_on HW.out]; omega, hR, hon⟩
      · have h1' : letN d = false := by simpa using h1
        rw [h1'] at hLt
        by_cases h2 : digN d = true
        · rw [h2] at hDg
          have hw : wordN (bN s t) = true := by rw [HD.out]; unfold wordN; rw [h2]; simp
          have HW : Hid (wordN (bN s t) = true) := hw
          clear hw h1 h1' h2
          go_wp2_with (first | (go_at_call 110; refine (hLt _).mono ?_; rintro e w2 ⟨rfl, rfl⟩) | (go_at_call 111; refine (hDg _).mono ?_; rintro e w2 ⟨rfl, rfl⟩))
          go_roundg (s.size - (t + 1))
          case measure => omega
          case rel => exact ⟨t + 1, by go_num, rfl, by omega, by omega, by rw [← HG.out, run_on HW.out]; omega, hR, hon⟩
        · have h2' : digN d = false := by simpa using h2
          rw [h2'] at hDg
          have hw : wordN (bN s t) = false := by rw [HD.out]; unfold wordN; rw [h1', h2']; rfl
          have eT : T = t := by rw [← HG.out, run_off hw]; rfl
          subst eT
          clear hw h1 h1' h2 h2'
          go_wp2_with (first | (go_at_call 82; refine (hP _).mono ?_; rintro e w3 ⟨xx, rfl, rfl⟩) | (go_at_call 110; refine (hLt _).mono ?_; rintro e w2 ⟨rfl, rfl⟩) | (go_at_call 111; refine (hDg _).mono ?_; rintro e w2 ⟨rfl, rfl⟩))
          (try simp only [Exit.inBlock, Exit.then])
          refine bodyPost_ret (v := .tuple #[.agg #[.int .i64 0, .string ⟨#[]⟩, .int .i64 0], .int .i64 p, .agg #[.int .i64 5, .int .i64 p]]) ?_ rfl ⟨rfl, ?_⟩
          · rw [results_c3 rfl]
            go_simp
          · exact ((((hon.setNew (Nat.le_refl _) _).setNew (Nat.le_refl _) _).setNew (Nat.le_refl _) _).setNew (Nat.le_succ _) _).setNew (Nat.le_succ _) _
    · have eT : T = t := by rw [← HG.out, suf_ge (by omega)]; rfl
      subst eT
      go_wp2_with (go_at_call 82; refine (hP _).mono ?_; rintro e w3 ⟨xx, rfl, rfl⟩)
      (try simp only [Exit.inBlock, Exit.then])
      refine bodyPost_ret (v := .tuple #[.agg #[.int .i64 0, .string ⟨#[]⟩, .int .i64 0], .int .i64 p, .agg #[.int .i64 5, .int .i64 p]]) ?_ rfl ⟨rfl, ?_⟩
      · rw [results_c3 rfl]
        go_simp
      · exact ((((hon.setNew (Nat.le_refl _) _).setNew (Nat.le_refl _) _).setNew (Nat.le_refl _) _).setNew (Nat.le_succ _) _).setNew (Nat.le_succ _) _
end
end Go.Proofs.YtacflahkofmcpaaGreatDoor
