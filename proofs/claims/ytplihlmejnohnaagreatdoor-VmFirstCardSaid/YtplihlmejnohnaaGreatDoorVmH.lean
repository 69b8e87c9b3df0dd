/- vm.do: what a thread's next instruction does. -/
import Derived.Test.YtplihlmejnohnaaGreatDoorJ41VmG
namespace Go.Proofs.YtplihlmejnohnaaGreatDoor
open Go.RowKit

def np (s : StT) : StT := ⟨0, s.t, s.k, s.l, s.r, s.w, s.f⟩
def dmV (V : VmT) (t : Nat) (s : StT) : VmT := ⟨V.m, V.l, bA V t s, memA V s, wrA V s, V.st⟩
theorem b64_inr {v : Int} (h : B64 v) : InR v := h
theorem en_in {c v n : Int} (h0 : 0 ≤ c) (h4 : c < 4) (hv : B64 v) (n0 : 0 ≤ n) (n1 : n ≤ 1000) : EnIn (c, v, n) := by
  intro z hz
  unfold enL at hz
  simp only [List.mem_cons, List.not_mem_nil, or_false] at hz
  rcases hz with rfl | rfl | rfl
  · exact ⟨by omega, by omega⟩
  · exact hv
  · exact ⟨by omega, by omega⟩
theorem do_store (V : VmT) (t c : Nat) (ht : t < 4) (v : Int) : dmV V t ⟨t, t, 2, (c : Int), 0, v, -1⟩ = if V.m = 1 then setMV V c v V.st.length else addBV V t ((c : Int), v, (V.st.length : Int)) := by
  unfold dmV bA memA wrA memB
  rw [if_pos ht]
  by_cases h1 : V.m = 1
  · rw [if_pos h1]
    have e1 : (V.m != 1) = false := by rw [h1]; rfl
    have e2 : (V.m == 1) = true := by rw [h1]; rfl
    simp only [e1, e2]
    rfl
  · rw [if_neg h1]
    have e1 : (V.m != 1) = true := by rw [bne_iff_ne]; exact h1
    have e2 : (V.m == 1) = false := by rw [beq_eq_false_iff_ne]; exact h1
    simp only [e1, e2]
    rfl
theorem do_same (V : VmT) (t : Nat) (ht : t < 4) (s : StT) (h2 : (s.k == 2) = false) (hm : memB V.m s = false) : dmV V t s = V := by
  unfold dmV bA memA wrA
  rw [if_pos ht, h2, hm]
  rfl
theorem do_won (V : VmT) (t c : Nat) (ht : t < 4) (r v f : Int) : dmV V t ⟨t, t, 4, (c : Int), r, v, f⟩ = setMV V c v V.st.length := by
  unfold dmV bA memA wrA memB
  rw [if_pos ht]
  rfl
set_option maxHeartbeats 4000000 in
set_option maxRecDepth 8000 in
theorem vdo_is (LL : List (List InsT)) (N t : Nat) (x : InsT) (P0 P1 P2 : Value) (V : VmT) (w : World) (h : VmIn w N P0 P1 P2 V) (ht : t < 4) (hL : LOk LL) (hV : VOk LL V) (hx : nxt LL V t = some x) :
    Calls Tryz.prog 66 #[ptV N, .int .i64 t, insV x] w fun e w' => e = .returned (stV (np (doneS V t x))) ∧ VmIn w' N P0 P1 P2 (dmV V t (doneS V t x)) ∧ OffV N w w' := by
  have hmem : x ∈ threadP LL t := next_mem hx
  have hloc := thr_any (LL := LL) (Q := fun L => ∀ x ∈ L, (x.k == 1 || (x.k == 2 || x.k == 4)) = true → 0 ≤ x.l ∧ x.l < 4) (fun _ hy => by cases hy) hL.loc t x hmem
  have hb := thr_any (LL := LL) (Q := InsB) (fun _ hy => by cases hy) hL.num t x hmem
  have hn80 := hV.n hL
  have hlen : (V.b t).length < 24 := by
    have h1 := hV.few t
    have h2 := hV.pc1 t
    have h3 := thr_any (LL := LL) (Q := fun L => L.length ≤ 10) (Nat.zero_le _) hL.ten t
    omega
  have hk := nxt_kind hx
  have hm3 : V.m = 1 ∨ V.m = 2 ∨ V.m = 3 := by have := hV.lo; have := hV.hi; omega
  have HV : Hid (VmIn w N P0 P1 P2 V) := h
  have NE : Hid (N < w.heap.size) := by obtain ⟨_, _, hN, _⟩ := h; exact hN.lt
  obtain ⟨W1, hW1⟩ : ∃ W1, W1 = (w.alloc (.cells #[.int .i64 x.k, .int .i64 x.r, .int .i64 x.l, .int .i64 x.a.r, .int .i64 x.a.v, .int .i64 x.o, .int .i64 x.b.r, .int .i64 x.b.v, .int .i64 x.n] 107)).alloc (.cells #[.int .i64 0, .int .i64 0, .int .i64 0, .int .i64 0, .int .i64 0, .int .i64 0, .int .i64 0] 39) := ⟨_, rfl⟩
  have W0 : Hid (VmB w W1 x stZ) := ⟨by rw [hW1]; exact ((On.refl w).alloc _).alloc _, by rw [hW1]; exact (Tb.new w _ _).alloc _, by
    rw [hW1]
    have := Tb.new (w.alloc (.cells #[.int .i64 x.k, .int .i64 x.r, .int .i64 x.l, .int .i64 x.a.r, .int .i64 x.a.v, .int .i64 x.o, .int .i64 x.b.r, .int .i64 x.b.v, .int .i64 x.n] 107)) #[.int .i64 0, .int .i64 0, .int .i64 0, .int .i64 0, .int .i64 0, .int .i64 0, .int .i64 0] 39
    rwa [World.size_alloc] at this⟩
  rcases hk with hk | hk | hk | hk
  · obtain ⟨h0, h4⟩ := hloc (by rw [hk]; rfl)
    obtain ⟨c, hc⟩ : ∃ c : Nat, x.l = (c : Int) := ⟨x.l.toNat, by omega⟩
    have hc4 : c < 4 := by omega
    have hcn : x.l.toNat = c := by omega
    have hs : doneS V t x = ⟨t, t, 2, x.l, 0, valOf x.a (V.l t), -1⟩ := by unfold doneS; rw [hk]; rfl
    have hd : dmV V t (doneS V t x) = if V.m = 1 then setMV V c (valOf x.a (V.l t)) V.st.length else addBV V t (x.l, valOf x.a (V.l t), (V.st.length : Int)) := by rw [hs, hc]; exact do_store V t c ht _
    have cS := fun W (k : On w W) => store_is N t c x P0 P1 P2 V W (HV.out.on k) ht hc4 hc (by rw [hc]; exact en_in (by omega) (by omega) (lb_val (hV.lb t) hb.1) (Int.natCast_nonneg _) (by omega)) hm3 hlen
    rw [← hd] at cS
    rw [hs] at cS ⊢
    have g1 : (x.k == 1) = true := by rw [hk]; rfl
    generalize dmV V t _ = V1 at *
    generalize valOf x.a (V.l t) = va at *
    clear hd hs hc h0 h4 hc4 hcn
    clear hk hn80 hb hloc hmem hL hV hx h hlen hm3
    unfold ptV at cS
    unfold ptV insV
    go_enter Tryz.func66, Tryz.ntmps66
    go_wp2_with fail
    rw [← hW1]
    clear hW1
    refine (cS _ W0.out.on).mono ?_
    rintro _ w1 ⟨rfl, V1', O1⟩
    have RB := O1.tk W0.out.rb (by have := NE.out; omega)
    go_wp2_with (refine wpList_sto (cs := (stC ⟨0, t, 2, x.l, 0, va, -1⟩).toArray) rfl rfl rfl rfl RB step_sz rfl (stC_one _) ?_)
    intro ws bs os
    go_wp2
    (try simp only [Exit.inBlock, Exit.then]); refine bodyPost_ret (res_step rfl rfl bs) rfl ?_
    exact ⟨rfl, V1'.offS os RB (by have := NE.out; omega), ((OffV.of W0.out.on).trans O1).fresh os (Nat.le_succ _)⟩
  · obtain ⟨h0, h4⟩ := hloc (by rw [hk]; rfl)
    obtain ⟨c, hc⟩ : ∃ c : Nat, x.l = (c : Int) := ⟨x.l.toNat, by omega⟩
    have hc4 : c < 4 := by omega
    have hcn : x.l.toNat = c := by omega
    have hs : doneS V t x = ⟨t, t, 1, x.l, (seesV V t x.l).1, 0, (seesV V t x.l).2⟩ := by unfold doneS; rw [hk]; rfl
    have hd : dmV V t (doneS V t x) = V := by rw [hs]; exact do_same V t ht _ rfl rfl
    have cS := fun W (k : On w W) => load_is N t c x P0 P1 P2 V W (HV.out.on k) ht hc4 hc
    rw [hd]
    rw [hs]
    have g1 : (x.k == 1) = false := by rw [hk]; rfl
    have g2 : (x.k == 2) = true := by rw [hk]; rfl
    generalize (seesV V t x.l).1 = s1 at *
    generalize (seesV V t x.l).2 = s2 at *
    clear hd hs hc h0 h4 hc4 hcn
    clear hk hn80 hb hloc hmem hL hV hx h hlen hm3
    unfold ptV at cS
    unfold ptV insV
    go_enter Tryz.func66, Tryz.ntmps66
    go_wp2_with fail
    rw [← hW1]
    clear hW1
    refine (cS _ W0.out.on).mono ?_
    rintro _ w1 ⟨rfl, k1⟩
    have V1' := HV.out.on (W0.out.on.trans k1)
    have O1 : OffV N W1 w1 := OffV.of k1
    have RB := O1.tk W0.out.rb (by have := NE.out; omega)
    go_wp2_with (refine wpList_sto (cs := (stC ⟨0, t, 1, x.l, s1, 0, s2⟩).toArray) rfl rfl rfl rfl RB step_sz rfl (stC_one _) ?_)
    intro ws bs os
    go_wp2
    (try simp only [Exit.inBlock, Exit.then]); refine bodyPost_ret (res_step rfl rfl bs) rfl ?_
    exact ⟨rfl, V1'.offS os RB (by have := NE.out; omega), ((OffV.of W0.out.on).trans O1).fresh os (Nat.le_succ _)⟩
  · have hs : doneS V t x = ⟨t, t, 3, 0, 0, 0, -1⟩ := by unfold doneS; rw [hk]; rfl
    have hd : dmV V t (doneS V t x) = V := by rw [hs]; exact do_same V t ht _ rfl rfl
    rw [hd]
    rw [hs]
    have g1 : (x.k == 1) = false := by rw [hk]; rfl
    have g2 : (x.k == 2) = false := by rw [hk]; rfl
    have g4 : (x.k == 4) = false := by rw [hk]; rfl
    clear hd hs
    clear hk hn80 hb hloc hmem hL hV hx h hlen hm3
    unfold ptV insV
    go_enter Tryz.func66, Tryz.ntmps66
    have RB := W0.out.rb
    rw [hW1] at RB
    go_wp2_with (first | (refine wpList_sto (cs := (stC ⟨0, t, 3, 0, 0, 0, -1⟩).toArray) rfl rfl rfl rfl RB step_sz rfl (stC_one _) ?_) | (refine wpList_mkF rfl rfl rfl rfl rfl ?_))
    intro ws bs os
    go_wp2
    (try simp only [Exit.inBlock, Exit.then]); refine bodyPost_ret (res_step rfl rfl bs) rfl ?_
    rw [← hW1] at os
    exact ⟨rfl, (HV.out.on W0.out.on).offS os W0.out.rb (by have := NE.out; omega), (OffV.of W0.out.on).fresh os (Nat.le_succ _)⟩
  · obtain ⟨h0, h4⟩ := hloc (by rw [hk]; rfl)
    obtain ⟨c, hc⟩ : ∃ c : Nat, x.l = (c : Int) := ⟨x.l.toNat, by omega⟩
    have hc4 : c < 4 := by omega
    have hcn : x.l.toNat = c := by omega
    have hs : doneS V t x = if V.mem c == valOf x.a (V.l t) then ⟨t, t, 4, x.l, V.mem c, valOf x.b (V.l t), V.wr c⟩ else ⟨t, t, 5, x.l, V.mem c, 0, V.wr c⟩ := by unfold doneS; rw [hk, hcn]; rfl
    have hd : dmV V t (doneS V t x) = if V.mem c == valOf x.a (V.l t) then setMV V c (valOf x.b (V.l t)) V.st.length else V := by
      rw [hs]
      cases V.mem c == valOf x.a (V.l t) with
      | true => rw [if_pos rfl, if_pos rfl, hc]; exact do_won V t c ht _ _ _
      | false => rw [if_neg (by decide), if_neg (by decide)]; exact do_same V t ht _ rfl rfl
    have hn : np (doneS V t x) = if V.mem c == valOf x.a (V.l t) then ⟨0, t, 4, x.l, V.mem c, valOf x.b (V.l t), V.wr c⟩ else ⟨0, t, 5, x.l, V.mem c, 0, V.wr c⟩ := by
      rw [hs]
      cases V.mem c == valOf x.a (V.l t) <;> rfl
    have cS := fun W (k : On w W) => swap_is N t c x P0 P1 P2 V W (HV.out.on k) ht hc4 hc
    rw [← hd, ← hn] at cS
    have g1 : (x.k == 1) = false := by rw [hk]; rfl
    have g2 : (x.k == 2) = false := by rw [hk]; rfl
    have g4 : (x.k == 4) = true := by rw [hk]; rfl
    generalize np (doneS V t x) = s1 at *
    generalize dmV V t (doneS V t x) = V1 at *
    clear hd hs hn hc h0 h4 hc4 hcn
    clear hk hn80 hb hloc hmem hL hV hx h hlen hm3
    unfold ptV at cS
    unfold ptV insV
    go_enter Tryz.func66, Tryz.ntmps66
    go_wp2_with fail
    rw [← hW1]
    clear hW1
    refine (cS _ W0.out.on).mono ?_
    rintro _ w1 ⟨rfl, V1', O1⟩
    have RB := O1.tk W0.out.rb (by have := NE.out; omega)
    go_wp2_with (refine wpList_sto (cs := (stC s1).toArray) rfl rfl rfl rfl RB step_sz rfl (stC_one _) ?_)
    intro ws bs os
    go_wp2
    (try simp only [Exit.inBlock, Exit.then]); refine bodyPost_ret (res_step rfl rfl bs) rfl ?_
    exact ⟨rfl, V1'.offS os RB (by have := NE.out; omega), ((OffV.of W0.out.on).trans O1).fresh os (Nat.le_succ _)⟩
end Go.Proofs.YtplihlmejnohnaaGreatDoor
