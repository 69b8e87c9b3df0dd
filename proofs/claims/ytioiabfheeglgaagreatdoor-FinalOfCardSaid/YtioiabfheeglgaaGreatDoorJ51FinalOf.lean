/- What the candidates of a made program are like: few events, numbers of 64 bits, a last write of each location. In plain Lean. -/
import Derived.Test.YtioiabfheeglgaaGreatDoorJ45EndP
import Derived.Test.YtioiabfheeglgaaGreatDoorJ50OfP
import Derived.Test.YtioiabfheeglgaaGreatDoorJ07DoW
import Derived.Test.YtioiabfheeglgaaGreatDoorJ47FiR
import Derived.Test.YtioiabfheeglgaaGreatDoorJ48FinZ
import Derived.Test.YtioiabfheeglgaaGreatDoorJ49ExQ
namespace Go.Proofs.YtioiabfheeglgaaGreatDoor
open Go.RowKit

theorem of_insB (zs : List Int) (most : Nat) : ∀ L ∈ ofT zs most, InsB L := by
 intro L hL y hy
 unfold ofT at hL
 obtain ⟨L0, hL0, rfl⟩ := List.mem_map.1 hL
 unfold rplRow at hy
 obtain ⟨z, hz, rfl⟩ := List.mem_map.1 hy
 have e : (rplIns (locsR (smallP zs most)) z).a = z.a ∧ (rplIns (locsR (smallP zs most)) z).b = z.b := by
  unfold rplIns
  split <;> exact ⟨rfl, rfl⟩
 rw [e.1, e.2]
 have := thrFrom_b zs most _ _ _ _ L0 hL0 z hz
 exact ⟨this.1, this.2.1⟩
theorem valFrom_b (b : UInt8) : ∀ (L : List InitT) (v : Int), B64 v → (∀ x ∈ L, B64 x.v) → B64 (valFrom b L v)
 | [], _, h, _ => h
 | x :: L, v, h, hL => by
  unfold valFrom
  rw [List.foldl_cons]
  refine valFrom_b b L _ ?_ (fun y hy => hL y (List.mem_cons_of_mem _ hy))
  split
  ·
   exact hL x List.mem_cons_self
  ·
   exact h
theorem of_inB (zs : List Int) (most : Nat) : ∀ v ∈ iniVals (locsR (smallP zs most)) (smallP zs most).ini, B64 v := by
 intro v hv
 unfold iniVals at hv
 obtain ⟨b, _, rfl⟩ := List.mem_map.1 hv
 exact valFrom_b b _ 0 bd_zero (iniOf_b zs)
theorem flat_le {α : Type} (k : Nat) : ∀ (R : List (List α)), (∀ r ∈ R, r.length ≤ k) → R.flatten.length ≤ R.length * k
 | [], _ => by simp
 | r :: R, h => by
  rw [List.flatten_cons, List.length_append, List.length_cons, Nat.succ_mul]
  have h1 := h r List.mem_cons_self
  have h2 := flat_le k R (fun s hs => h s (List.mem_cons_of_mem _ hs))
  omega
theorem okx_len {m : Nat} {IN : List Int} {LL : List (List InsT)} {x : ExT} (h : OkX m IN LL x) (h6 : ∀ L ∈ LL, L.length ≤ 6) (h3 : LL.length ≤ 3) (hm : m ≤ 3) : x.evs.length ≤ 21 := by
 obtain ⟨rows, h1, h2, h3'⟩ := h.evs
 have hr : ∀ r ∈ rows, r.length ≤ 6 := by
  intro r hr
  obtain ⟨t, ht⟩ := mem_at hr
  obtain ⟨q, rfl, _⟩ := h3' t r ht
  have := unf_len ((threadP LL t).length + 1) (threadP LL t) t (startP (threadP LL t)) 0 q (start_on _)
  have h6' := thread_len h6 (t : Int)
  have e : unfP (threadP LL t) t q = unfN ((threadP LL t).length + 1) (threadP LL t) t (startP (threadP LL t)) 0 q := rfl
  rw [e]
  omega
 have hf := flat_le 6 rows hr
 rw [h2, List.length_append, inits_len]
 omega
/-- All that Final and Of ask of a candidate. -/
structure EndX (LL : List (List InsT)) (m : Nat) (x : ExT) : Prop where
 len : x.evs.length ≤ 64
 b : ∀ k, B64 (endN LL x k)
 col : x.co.length = m
 co : ∀ (c : Nat) r, x.co[c]? = some r → 0 < r.length ∧ ∃ k : Nat, r.getD (r.length - 1) 0 = (k : Int) ∧ k < x.evs.length
theorem okx_end {m : Nat} {IN : List Int} {LL : List (List InsT)} {x : ExT} (h : OkX m IN LL x) (h6 : ∀ L ∈ LL, L.length ≤ 6) (h3 : LL.length ≤ 3) (hm : m ≤ 3) (hI : ∀ v ∈ IN, B64 v) (hB : ∀ L ∈ LL, InsB L) : EndX LL m x := by
 have hl := okx_len h h6 h3 hm
 have hb := okx_b h (by omega) hI hB
 refine ⟨by omega, endN_b hB hb, h.col, fun c r hr => ?_⟩
 refine last_in (h.co c r hr) ?_
 have hc : c < x.co.length := (List.getElem?_eq_some_iff.1 hr).1
 rw [h.col] at hc
 obtain ⟨rows, _, h2, _⟩ := h.evs
 rw [h2, List.length_append, inits_len]
 omega
end Go.Proofs.YtioiabfheeglgaaGreatDoor

namespace Go.Proofs.YtioiabfheeglgaaGreatDoor
open Go.RowKit

theorem wp_fstR {o : Oper} {a : Act} {w : World} {K : Act → World → Prop} {Q : Exit → Act → World → Prop} {x y : Operand} (ho : o.op = .store 36 x y)
  {N : Nat} (hx : a.eval x = .pointer (some ⟨N, 0, none⟩)) {f g : FinT} (hy : a.eval y = .agg (finA f)) (h : Bk w N (finA g)) (k : K (a.put o.dst undef) (w.setRow N (finA f))) : o.wp Tryz.prog a w K Q := by
 obtain ⟨T, e⟩ := h
 exact wp_store_row 36 x y ho N (finA f) hx hy T (finA g) e (by rw [finA_size]; exact fin_size) (by rw [finA_size, finA_size]) (all_oneCell_toArray (finC_one f)) k
theorem exec_fneS {a : Act} {o : Oper} {x y : Operand} {u : TypeId} (ho : o.op = .binOp .neq 36 x y u) {f : FinT} (hx : a.eval x = .agg (finA f)) (hy : a.eval y = .agg (finA f)) (W : World) : (execOp a.eval o).run Tryz.prog W = .ok (.value (.bool false)) W := by
 have := exec_fne ho hx hy W
 rw [decide_eq_true rfl] at this
 exact this
theorem wrap_succ {i : Nat} (h : i < 9223372036854775807) : IntKind.i64.wrap ((i : Int) + 1) = ((i + 1 : Nat) : Int) := by
 rw [wrap_small] <;> omega
set_option maxHeartbeats 8000000 in
set_option maxRecDepth 8000 in
theorem finalOf_walk (ao : Option Addr) (zs : List Int) (cap : Nat) (w : World) (hz : zs.length ≤ 9223372036854775807) (hr : Rd intC 1 w (.slice ao zs.length cap) zs) (hP : Pw w) :
  Calls Tryz.prog 3 #[.slice ao zs.length cap] w fun e w' => e = .returned (.bool true) ∧ On w w' := by
 have HAW : Hid (∀ W, On w W → Calls Tryz.prog 6 #[] W fun e w' => e = .returned (.bool true) ∧ On W w') := fun W k => awake13_is W (hP.on k)
 have HPW : Hid (Pw w) := hP
 have hO := of_is zs ao cap 5 w hz hr
 have HLO : Hid ((locsR (smallP zs 5)).length ≤ 3) := of_locs3 zs 5
 have HMN : Hid (2 ≤ (ofT zs 5).length ∧ (ofT zs 5).length ≤ 3) := of_many zs 5
 have HFI : Hid (∀ L ∈ ofT zs 5, fineL L) := of_fine zs 5
 have HL6 : Hid (∀ L ∈ ofT zs 5, L.length ≤ 6) := of_len zs 5
 have HOK : Hid (∀ L ∈ ofT zs 5, locsOk (locsR (smallP zs 5)).length L) := of_lok zs 5
 have HIB : Hid (∀ L ∈ ofT zs 5, InsB L) := of_insB zs 5
 have HIN : Hid (∀ v ∈ iniVals (locsR (smallP zs 5)) (smallP zs 5).ini, B64 v) := of_inB zs 5
 have HII : Hid ((iniVals (locsR (smallP zs 5)) (smallP zs 5).ini).length = (locsR (smallP zs 5)).length) := of_inis zs 5
 clear hz hr hP
 generalize ofT zs 5 = LL at *
 generalize iniVals (locsR (smallP zs 5)) (smallP zs 5).ini = IN at *
 generalize locsR (smallP zs 5) = LT at *
 generalize zs.length = mz at *
 have HLN : Hid (∀ t, (threadP LL t).length ≤ 1000000) := fun t => by
  have := thread_len HL6.out t
  omega
 have HEX : Hid (∀ x, OkX LT.length IN LL x → EndX LL LT.length x) := fun x h => okx_end h HL6.out HMN.out.2 HLO.out HIN.out HIB.out
 go_enter Tryz.func3, Tryz.ntmps3
 go_wp2_with fail
 refine hO.mono ?_
 rintro _ w1 ⟨pv, rfl, hPr, k1⟩
 have HPR : Hid (ProgFl w1 pv LT IN LL) := hPr
 have hAll := fun W (k : On w1 W) => rall_is rcmp_all LT IN LL 800 pv W (HPR.out.on k) HII.out (Nat.le_trans HLO.out (by decide)) (Nat.le_trans HMN.out.2 (by decide)) (fun L hL => Nat.le_trans (HL6.out L hL) (by decide)) HFI.out HOK.out (by decide)
 have HAL : Hid _ := hAll
 obtain ⟨a1, c1, a2, c2, a3, c3, rfl, _, _, _⟩ := hPr.ex
 have BP := Bk.new w1 #[.slice a1 LT.length c1, .slice a2 IN.length c2, .slice a3 LL.length c3] 27
 have K1 : Hid (On w w1) := k1
 have cp0 := BP.at (i := 0) rfl
 have cp1 := BP.at (i := 1) rfl
 have cp2 := BP.at (i := 2) rfl
 have hAl := HAL.out _ ((On.refl w1).alloc (.cells #[.slice a1 LT.length c1, .slice a2 IN.length c2, .slice a3 LL.length c3] 27))
 have HBP : Hid (Bk (w1.alloc (.cells #[.slice a1 LT.length c1, .slice a2 IN.length c2, .slice a3 LL.length c3] 27)) w1.heap.size #[.slice a1 LT.length c1, .slice a2 IN.length c2, .slice a3 LL.length c3]) := BP
 clear hPr hO hAll k1 BP
 go_wp2_with fail
 refine hAl.mono ?_
 rintro _ w2 ⟨k2, h | ⟨v, L, h, hOw, hAP⟩⟩
 ·
  subst h
  have KW : On w w2 := (K1.out.trans ((On.refl w1).alloc _)).trans k2
  have hA := HAW.out w2 KW
  clear hAl cp0 cp1 cp2
  go_wp2_with fail
  refine hA.mono ?_
  rintro _ w3 ⟨rfl, k3⟩
  go_wp2
  go_ret
  exact ⟨rfl, KW.trans k3⟩
 ·
  subst h
  have KW : Hid (On w w2) := (K1.out.trans ((On.refl w1).alloc _)).trans k2
  have K12 : Hid (On w1 w2) := ((On.refl w1).alloc _).trans k2
  have HB2 : Hid (Bk w2 w1.heap.size #[.slice a1 LT.length c1, .slice a2 IN.length c2, .slice a3 LL.length c3]) := HBP.out.on k2
  have HAX : Hid (∀ x ∈ L, OkX LT.length IN LL x) := all_ok hAP
  obtain ⟨vs, hvl, hown, hvx⟩ := hOw
  obtain ⟨av, cv, rfl⟩ := own_slice hown
  have hRT : Rd triC 3 w2 (.slice av L.length cv) vs := by
   rw [← hvl] at hown ⊢
   exact Rd.own triC_len hown
  have HRT : Hid (Rd triC 3 w2 (.slice av vs.length cv) vs) := by show Rd _ _ _ _ _; rw [hvl]; exact hRT
  have HVL : Hid (vs.length = L.length) := hvl
  have HVX : Hid (∀ (i : Nat) (t : Tri) (x : ExT), vs[i]? = some t → L[i]? = some x → ExTd w2 t x) := hvx
  have hlm := own_max hown
  have HLM : Hid (L.length ≤ 9223372036854775807) := hlm
  clear hAl cp0 cp1 cp2 hvl hown hvx hRT hAP k2 hlm HBP
  go_wp2
  go_loopg [6] L.length (fun gg s6 wq => ∃ i : Nat, i ≤ L.length ∧ gg = L.length - i ∧ s6 = .int .i64 i ∧ Hid (On w2 wq))
  case atStart => exact ⟨0, Nat.zero_le _, rfl, rfl, On.refl w2⟩
  case round =>
   obtain ⟨i, hi, hk, rfl, HQ⟩ := hrel
   rcases Nat.lt_or_ge i L.length with hlt | hge
   ·
    have bi0 : (0 : Int) ≤ (i : Int) := by omega
    have bi1 : (i : Int) < (L.length : Int) := by omega
    have hi2 : IntKind.i64.wrap ((i : Int) + 1) = ((i + 1 : Nat) : Int) := wrap_succ (Nat.lt_of_lt_of_le hlt HLM.out)
    obtain ⟨x, hx⟩ : ∃ x, L[i]? = some x := ⟨_, List.getElem?_eq_getElem hlt⟩
    obtain ⟨t, ht⟩ : ∃ t, vs[i]? = some t := ⟨_, List.getElem?_eq_getElem (by rw [HVL.out]; exact hlt)⟩
    have hxd := HVX.out i t x ht hx
    have HXD : Hid (ExRd w2 (triV t) x) := hxd.rd
    have hE := HEX.out x (HAX.out x (List.mem_of_getElem? hx))
    obtain ⟨e1, f1, e2, f2, e3, f3, htt⟩ := hxd.ex
    obtain ⟨gv, ov, rfl, hgv, hcv⟩ := HRT.out.at ht
    subst htt
    have FX0 : Hid (∀ W, On wr W → W.cell? ⟨gv, ov + i * 3, none⟩ = some (.slice e1 x.evs.length f1)) := fun W k => ((HQ.out.trans k).cell (p := ⟨gv, ov + i * 3, none⟩) hgv).trans (hcv 0 _ rfl)
    have FX1 : Hid (∀ W, On wr W → W.cell? ⟨gv, ov + i * 3 + 1, none⟩ = some (.slice e2 x.rf.length f2)) := fun W k => ((HQ.out.trans k).cell (p := ⟨gv, ov + i * 3 + 1, none⟩) hgv).trans (hcv 1 _ rfl)
    have FX2 : Hid (∀ W, On wr W → W.cell? ⟨gv, ov + i * 3 + 2, none⟩ = some (.slice e3 x.co.length f3)) := fun W k => ((HQ.out.trans k).cell (p := ⟨gv, ov + i * 3 + 2, none⟩) hgv).trans (hcv 2 _ rfl)
    have FP0 : Hid (∀ W, On wr W → W.cell? ⟨w1.heap.size, 0, none⟩ = some (.slice a1 LT.length c1)) := fun W k => ((HB2.out.on HQ.out).on k).at rfl
    have FP1 : Hid (∀ W, On wr W → W.cell? ⟨w1.heap.size, 1, none⟩ = some (.slice a2 IN.length c2)) := fun W k => ((HB2.out.on HQ.out).on k).at rfl
    have FP2 : Hid (∀ W, On wr W → W.cell? ⟨w1.heap.size, 2, none⟩ = some (.slice a3 LL.length c3)) := fun W k => ((HB2.out.on HQ.out).on k).at rfl
    have hFin := fun W (k : On wr W) => rfinal_is LT IN LL x _ _ W (((HPR.out.on K12.out).on HQ.out).on k) ((HXD.out.on HQ.out).on k) (Nat.le_trans hE.len (by decide)) hE.b (Nat.le_trans HMN.out.2 (by decide)) (by rw [hE.col]; exact Nat.le_trans HLO.out (by decide)) HLN.out HFI.out hE.co
    have hOf0 := fun W (k : On wr W) => fOf_is LT IN LL x _ _ W (((HPR.out.on K12.out).on HQ.out).on k) ((HXD.out.on HQ.out).on k) (Nat.le_trans hE.len (by decide)) hE.b hE.col.symm (by rw [hE.col]; exact Nat.le_trans HLO.out (by decide)) HLN.out hE.co
    obtain ⟨FF, hFF⟩ : ∃ FF, FF = endF LL x := ⟨_, rfl⟩
    have hTx0 := fun W (k : On wr W) => ftext_is LT a1 c1 (.slice a2 IN.length c2) a3 LL.length c3 FF W (HPW.out.on ((KW.out.trans HQ.out).trans k)) (by obtain ⟨_, _, _, _, _, _, he, hh, _, _⟩ := (((HPR.out.on K12.out).on HQ.out).on k).ex; simp only [Value.agg.injEq] at he; have h1 := congrArg (·[0]?) he; simp at h1; rw [h1.1, h1.2]; exact hh)
    have hRx0 := fun W (k : On wr W) => rftext_is LT a1 c1 (.slice a2 IN.length c2) a3 LL.length c3 FF W (by have := HMN.out; omega) (by have := HMN.out; omega) (by obtain ⟨_, _, _, _, _, _, he, hh, _, _⟩ := (((HPR.out.on K12.out).on HQ.out).on k).ex; simp only [Value.agg.injEq] at he; have h1 := congrArg (·[0]?) he; simp at h1; rw [h1.1, h1.2]; exact hh)
    rw [← hFF] at hFin hOf0
    obtain ⟨sx, hsx⟩ : ∃ sx : ByteArray, sx = ⟨(finTx (min LL.length 4) (LT.take 4) FF).toArray⟩ := ⟨_, rfl⟩
    rw [← hsx] at hTx0 hRx0
    unfold triV at hFin hOf0
    simp only at hFin hOf0
    have HOF : Hid _ := hOf0
    have HTX : Hid _ := hTx0
    have HRX : Hid _ := hRx0
    have S0 : On wr wr.drew := (On.refl wr).drew
    have HHK : Hid (gk = L.length - i) := hk
    clear hOf0 hTx0 hRx0 hFF hsx hE hx ht hxd hcv hgv hk
    go_wp2
    refine region_fz (fun W => On wr W) [] 8 (by kernel_rfl) rfl ?_
    refine fz_take 0 (v := ?_) rfl (by kernel_rfl) (by kernel_rfl) (by kernel_rfl) (by kernel_rfl) (fun _ _ _ h => h) rfl ?_ S0 ?_
    rotate_left
    ·
     intro W hW
     have cp0 := FP0.out W hW
     have cp1 := FP1.out W hW
     have cp2 := FP2.out W hW
     go_simp
     (try with_reducible rfl)
    simp only [zpu, zsa, zsz, zss]
    refine fz_take 1 (v := ?_) rfl (by kernel_rfl) (by kernel_rfl) (by kernel_rfl) (by kernel_rfl) (fun _ _ _ h => h) rfl ?_ S0 ?_
    rotate_left
    ·
     intro W hW
     go_simp
     (try with_reducible rfl)
    simp only [zpu, zsa, zsz, zss]
    refine fz_take 2 (v := ?_) rfl (by kernel_rfl) (by kernel_rfl) (by kernel_rfl) (by kernel_rfl) (fun _ _ _ h => h) rfl ?_ S0 ?_
    rotate_left
    ·
     intro W hW
     go_simp
     (try with_reducible rfl)
    simp only [zpu, zsa, zsz, zss]
    refine fz_take 3 (v := ?_) rfl (by kernel_rfl) (by kernel_rfl) (by kernel_rfl) (by kernel_rfl) (fun _ _ _ h => h) rfl ?_ S0 ?_
    rotate_left
    ·
     intro W hW
     go_simp
     (try with_reducible rfl)
    simp only [zpu, zsa, zsz, zss]
    refine fz_take 4 (v := ?_) rfl (by kernel_rfl) (by kernel_rfl) (by kernel_rfl) (by kernel_rfl) (fun _ _ _ h => h) rfl ?_ S0 ?_
    rotate_left
    ·
     intro W hW
     have cx0 := FX0.out W hW
     have cx1 := FX1.out W hW
     have cx2 := FX2.out W hW
     go_simp
     (try with_reducible rfl)
    simp only [zpu, zsa, zsz, zss]
    refine fz_grow [(5, 29, none), (6, 7, none)] (fun i v W => (i = 5 → v = .agg (finA FF)) ∧ (i = 6 → ∃ N, v = .pointer (some ⟨N, 0, none⟩) ∧ wr.heap.size ≤ N ∧ Bk W N (finA finZ))) #[true, true, true, true, true, true, true, false] 2 1 (by simp) (by simp) ?_ rfl (fun _ _ h k => h.trans k) S0 ?_ (by kernel_rfl) (by kernel_rfl) ?_ ?_
    ·
     intro x hx
     simp only [List.mem_cons, List.not_mem_nil, or_false] at hx
     rcases hx with rfl | rfl <;> rfl
    ·
     intro i v w w' h k
     exact ⟨fun e => (fun h => h) (h.1 e), fun e => (fun h => by obtain ⟨N, h1, h2, h3⟩ := h; exact ⟨N, h1, h2, h3.on k⟩) (h.2 e)⟩
    ·
     intro i d c hi
     simp only [List.mem_cons, Prod.mk.injEq, List.not_mem_nil, or_false] at hi
     rcases hi with ⟨rfl, rfl, rfl⟩ | ⟨rfl, rfl, rfl⟩
     ·
      refine ⟨_, rfl, rfl, fun p W' l' K hr hm hS hK => ?_⟩
      have kW := hm.on
      clear hm hr
      simp only [putsA, putsD, List.foldl_cons, List.foldl_nil, Act.put, List.setIfInBounds_toArray, List.set_cons_zero, List.set_cons_succ] at hK ⊢
      go_simp
      refine (hFin W' (S0.trans kW)).mono ?_
      rintro _ W'' ⟨rfl, kk⟩
      exact hK _ W'' kk ⟨fun _ => rfl, fun e => absurd e (by decide)⟩
     ·
      refine ⟨_, rfl, rfl, fun p W' l' K hr hm hS hK => ?_⟩
      have kW := hm.on
      clear hm hr
      simp only [putsA, putsD, List.foldl_cons, List.foldl_nil, Act.put, List.setIfInBounds_toArray, List.set_cons_zero, List.set_cons_succ] at hK ⊢
      go_simp
      exact hK _ _ ((On.refl W').alloc _) ⟨fun e => absurd e (by decide), fun _ => ⟨_, rfl, (S0.trans kW).size, by rw [← zero20]; exact Bk.new _ _ _⟩⟩
    intro p WE hm hSE
    obtain ⟨u5, hu5, f5⟩ := hm.get (x := (5, 29, none)) (by simp) rfl
    have g5 := f5.1 rfl
    obtain ⟨u6, hu6, f6⟩ := hm.get (x := (6, 7, none)) (by simp) rfl
    have g6 := f6.2 rfl
    have kM := hm.on
    simp only [putsA, putsD, List.foldl_cons, List.foldl_nil, hu5, hu6, Option.getD_some, Act.put, List.setIfInBounds_toArray, List.set_cons_zero, List.set_cons_succ]
    clear hm hu5 f5 hu6 f6
    obtain ⟨N, rfl, hNb, hBk⟩ := g6
    subst g5
    refine fz_one 7 rfl rfl (by kernel_rfl) (fun K hK => ?_)
    refine wp_fstR rfl rfl rfl hBk ?_
    have S9 : On wr (WE.setRow N (finA FF)) := hSE.row hNb _
    refine hK.out _ _ (fun _ => S9) ?_
    clear hK
    refine fz_done (by kernel_rfl) (NoPanic.normal ?_)
    obtain ⟨w9, hw9⟩ : ∃ w9, w9 = WE.setRow N (finA FF) := ⟨_, rfl⟩
    have FN : Hid (∀ W, On w9 W → W.rangeAt N 0 (finC FF)) := fun W k => ((hw9 ▸ hBk.row (finA FF) : Bk w9 N (finA FF)).on k).range
    rw [← hw9] at S9 ⊢
    have HS9 : Hid (On wr w9) := S9
    have GX0 : Hid (∀ W, On w9 W → W.cell? ⟨gv, ov + i * 3, none⟩ = some (.slice e1 x.evs.length f1)) := fun W k => FX0.out W (HS9.out.trans k)
    have GX1 : Hid (∀ W, On w9 W → W.cell? ⟨gv, ov + i * 3 + 1, none⟩ = some (.slice e2 x.rf.length f2)) := fun W k => FX1.out W (HS9.out.trans k)
    have GX2 : Hid (∀ W, On w9 W → W.cell? ⟨gv, ov + i * 3 + 2, none⟩ = some (.slice e3 x.co.length f3)) := fun W k => FX2.out W (HS9.out.trans k)
    have GP0 : Hid (∀ W, On w9 W → W.cell? ⟨w1.heap.size, 0, none⟩ = some (.slice a1 LT.length c1)) := fun W k => FP0.out W (HS9.out.trans k)
    have GP1 : Hid (∀ W, On w9 W → W.cell? ⟨w1.heap.size, 1, none⟩ = some (.slice a2 IN.length c2)) := fun W k => FP1.out W (HS9.out.trans k)
    have GP2 : Hid (∀ W, On w9 W → W.cell? ⟨w1.heap.size, 2, none⟩ = some (.slice a3 LL.length c3)) := fun W k => FP2.out W (HS9.out.trans k)
    have hOf := fun W (k : On w9 W) => HOF.out W (HS9.out.trans k)
    have hTx := fun W (k : On w9 W) => HTX.out W (HS9.out.trans k)
    have hRx := fun W (k : On w9 W) => HRX.out W (HS9.out.trans k)
    have T0 : On w9 w9.drew := (On.refl w9).drew
    clear hw9 hFin FX0 FX1 FX2 FP0 FP1 FP2 S0 S9 hSE hBk hNb kM
    go_wp2
    refine region_fin (fun W => On w9 W) 99 17 (by kernel_rfl) rfl ?_
    refine fin_take 0 (v := ?_) rfl (by kernel_rfl) (by kernel_rfl) (by kernel_rfl) (by kernel_rfl) (fun _ _ _ h => h) rfl ?_ T0 ?_
    rotate_left
    ·
     intro W hW
     have cp0 := GP0.out W hW
     have cp1 := GP1.out W hW
     have cp2 := GP2.out W hW
     go_simp
     (try with_reducible rfl)
    simp only [zpu, zsa, zsz, zss]
    refine fin_take 1 (v := ?_) rfl (by kernel_rfl) (by kernel_rfl) (by kernel_rfl) (by kernel_rfl) (fun _ _ _ h => h) rfl ?_ T0 ?_
    rotate_left
    ·
     intro W hW
     go_simp
     (try with_reducible rfl)
    simp only [zpu, zsa, zsz, zss]
    refine fin_take 2 (v := ?_) rfl (by kernel_rfl) (by kernel_rfl) (by kernel_rfl) (by kernel_rfl) (fun _ _ _ h => h) rfl ?_ T0 ?_
    rotate_left
    ·
     intro W hW
     go_simp
     (try with_reducible rfl)
    simp only [zpu, zsa, zsz, zss]
    refine fin_take 3 (v := ?_) rfl (by kernel_rfl) (by kernel_rfl) (by kernel_rfl) (by kernel_rfl) (fun _ _ _ h => h) rfl ?_ T0 ?_
    rotate_left
    ·
     intro W hW
     go_simp
     (try with_reducible rfl)
    simp only [zpu, zsa, zsz, zss]
    refine fin_take 4 (v := ?_) rfl (by kernel_rfl) (by kernel_rfl) (by kernel_rfl) (by kernel_rfl) (fun _ _ _ h => h) rfl ?_ T0 ?_
    rotate_left
    ·
     intro W hW
     have cx0 := GX0.out W hW
     have cx1 := GX1.out W hW
     have cx2 := GX2.out W hW
     go_simp
     (try with_reducible rfl)
    simp only [zpu, zsa, zsz, zss]
    refine fin_take 6 (v := .agg (finA FF)) rfl (by kernel_rfl) (by kernel_rfl) (by kernel_rfl) (by kernel_rfl) (fun _ _ _ h => h) rfl (fun W hW => exec_fld rfl rfl (FN.out W hW)) T0 ?_
    simp only [zpu, zsa, zsz, zss]
    refine fin_one 5 rfl rfl (by kernel_rfl) (fun K hK => ?_)
    go_simp
    refine (hOf _ T0).mono ?_
    rintro _ wa ⟨rfl, kwa⟩
    have Swa : On w9 wa := T0.trans kwa
    refine hK.out _ _ (fun _ => Swa) ?_
    clear hK
    refine fin_take 7 (v := .bool false) rfl (by kernel_rfl) (by kernel_rfl) (by kernel_rfl) (by kernel_rfl) (fun _ _ _ h => h) rfl (fun W hW => exec_fneS rfl rfl rfl W) Swa ?_
    simp only [zpu, zsa, zsz, zss]
    refine fin_take 8 (v := ?_) rfl (by kernel_rfl) (by kernel_rfl) (by kernel_rfl) (by kernel_rfl) (fun _ _ _ h => h) rfl ?_ Swa ?_
    rotate_left
    ·
     intro W hW
     go_simp
     (try with_reducible rfl)
    simp only [zpu, zsa, zsz, zss]
    refine fin_takeG 9 (v := ?_) rfl (by kernel_rfl) (by kernel_rfl) (by kernel_rfl) (by kernel_rfl) (fun _ _ _ h => h) (by rfl) ?_ Swa ?_
    rotate_left
    ·
     intro W hW
     have cp0 := GP0.out W hW
     have cp1 := GP1.out W hW
     have cp2 := GP2.out W hW
     go_simp
     (try with_reducible rfl)
    simp only [zpu, zsa, zsz, zss]
    refine fin_takeG 10 (v := .agg (finA FF)) rfl (by kernel_rfl) (by kernel_rfl) (by kernel_rfl) (by kernel_rfl) (fun _ _ _ h => h) (by rfl) (fun W hW => exec_fld rfl rfl (FN.out W hW)) Swa ?_
    simp only [zpu, zsa, zsz, zss]
    refine fin_takeG 12 (v := ?_) rfl (by kernel_rfl) (by kernel_rfl) (by kernel_rfl) (by kernel_rfl) (fun _ _ _ h => h) (by rfl) ?_ Swa ?_
    rotate_left
    ·
     intro W hW
     have cp0 := GP0.out W hW
     have cp1 := GP1.out W hW
     have cp2 := GP2.out W hW
     go_simp
     (try with_reducible rfl)
    simp only [zpu, zsa, zsz, zss]
    refine fin_takeG 13 (v := .agg (finA FF)) rfl (by kernel_rfl) (by kernel_rfl) (by kernel_rfl) (by kernel_rfl) (fun _ _ _ h => h) (by rfl) (fun W hW => exec_fld rfl rfl (FN.out W hW)) Swa ?_
    simp only [zpu, zsa, zsz, zss]
    refine fin_oneG 11 rfl (by rfl) (by kernel_rfl) (fun K hK => ?_)
    go_simp
    refine (hTx _ Swa).mono ?_
    rintro _ wb ⟨rfl, kwb⟩
    have Swb : On w9 wb := Swa.trans kwb
    refine hK.out _ _ (fun _ => Swb) ?_
    clear hK
    refine fin_oneG 14 rfl (by rfl) (by kernel_rfl) (fun K hK => ?_)
    go_simp
    refine (hRx _ Swb).mono ?_
    rintro _ wc ⟨rfl, kwc⟩
    have Swc : On w9 wc := Swb.trans kwc
    refine hK.out _ _ (fun _ => Swc) ?_
    clear hK
    refine fin_takeG 15 (v := ?_) rfl (by kernel_rfl) (by kernel_rfl) (by kernel_rfl) (by kernel_rfl) (fun _ _ _ h => h) (by rfl) ?_ Swc ?_
    rotate_left
    ·
     intro W hW
     go_simp
     (try with_reducible rfl)
    simp only [zpu, zsa, zsz, zss]
    refine fin_take 16 (v := ?_) rfl (by kernel_rfl) (by kernel_rfl) (by kernel_rfl) (by kernel_rfl) (fun _ _ _ h => h) rfl ?_ Swc ?_
    rotate_left
    ·
     intro W hW
     go_simp
     (try with_reducible rfl)
    simp only [zpu, zsa, zsz, zss]
    refine fin_done (by kernel_rfl) (NoPanic.normal ?_)
    go_wp2
    go_roundg (L.length - (i + 1))
    case measure => exact meas_lt HHK.out hlt
    case rel => exact ⟨i + 1, hlt, rfl, by go_num, (HQ.out.trans HS9.out).trans Swc⟩
   ·
    obtain rfl : i = L.length := Nat.le_antisymm hi hge
    have hA := HAW.out wr (KW.out.trans HQ.out)
    have HQ2 : Hid (On w wr) := KW.out.trans HQ.out
    clear hk hge hi
    go_wp2_with fail
    refine hA.mono ?_
    rintro _ w3 ⟨rfl, k3⟩
    go_wp2
    go_ret
    exact ⟨rfl, HQ2.out.trans k3⟩
end Go.Proofs.YtioiabfheeglgaaGreatDoor
