/- vm.New for every program that may be. -/
import Derived.Test.YtplihlmejnohnaaGreatDoorJ37AgB
import Derived.Test.YtplihlmejnohnaaGreatDoorJ44VmK
import Derived.Test.YtplihlmejnohnaaGreatDoorJ33BufL
namespace Go.Proofs.YtplihlmejnohnaaGreatDoor
open Go.RowKit

/-- A machine that is being made: its cells, the Bufs' places as they are. -/
def vmG (P0 P1 P2 : Value) (m : Int) (l : Nat → LocT) (bp : Nat → Value) (mem wr : Nat → Int) : List Value :=
  [P0, P1, P2, i64V m] ++ (locC (l 0) ++ (locC (l 1) ++ (locC (l 2) ++ (locC (l 3) ++ ([bp 0, bp 1, bp 2, bp 3] ++
    ([i64V (mem 0), i64V (mem 1), i64V (mem 2), i64V (mem 3)] ++ ([i64V (wr 0), i64V (wr 1), i64V (wr 2), i64V (wr 3)] ++ [i64V 0, .pointer none])))))))
def locZ : LocT := ⟨0, 0, 0, 0, 0⟩
section
variable {P0 P1 P2 u : Value} {m : Int} {l : Nat → LocT} {bp : Nat → Value} {mem wr : Nat → Int} {t : Nat}
theorem vg_wr (h : t < 4) : (vmG P0 P1 P2 m l bp mem wr).toArray[32 + t]? = some (.int .i64 (wr t)) := by
  match t, h with
  | 0, _ => rfl
  | 1, _ => rfl
  | 2, _ => rfl
  | 3, _ => rfl
theorem vg_bp (h : t < 4) : (vmG P0 P1 P2 m l bp mem wr).toArray[24 + t]? = some (bp t) := by
  match t, h with
  | 0, _ => rfl
  | 1, _ => rfl
  | 2, _ => rfl
  | 3, _ => rfl
theorem vg_setW (v : Int) (h : t < 4) : (vmG P0 P1 P2 m l bp mem wr).set (32 + t) (.int .i64 v) = vmG P0 P1 P2 m l bp mem (upf wr t v) := by
  match t, h with
  | 0, _ => rfl
  | 1, _ => rfl
  | 2, _ => rfl
  | 3, _ => rfl
theorem vg_setB (h : t < 4) : (vmG P0 P1 P2 m l bp mem wr).set (24 + t) u = vmG P0 P1 P2 m l (upf bp t u) mem wr := by
  match t, h with
  | 0, _ => rfl
  | 1, _ => rfl
  | 2, _ => rfl
  | 3, _ => rfl
theorem vg_setL (x : LocT) (h : t < 4) : (((((vmG P0 P1 P2 m l bp mem wr).set (4 + t * 5) (i64V x.pc)).set (4 + t * 5 + 1) (i64V x.r0)).set (4 + t * 5 + 2) (i64V x.r1)).set (4 + t * 5 + 3) (i64V x.r2)).set (4 + t * 5 + 4) (i64V x.r3) = vmG P0 P1 P2 m (upf l t x) bp mem wr := by
  match t, h with
  | 0, _ => rfl
  | 1, _ => rfl
  | 2, _ => rfl
  | 3, _ => rfl
theorem vg_copy (IN : List Int) (h : IN.length ≤ 4) : (vmG P0 P1 P2 m l bp (fun _ => 0) wr).take 28 ++ IN.map i64V ++ (vmG P0 P1 P2 m l bp (fun _ => 0) wr).drop (28 + (IN.map i64V).length) = vmG P0 P1 P2 m l bp (fun c => IN.getD c 0) wr := by
  match IN, h with
  | [], _ => rfl
  | [_], _ => rfl
  | [_, _], _ => rfl
  | [_, _, _], _ => rfl
  | [_, _, _, _], _ => rfl
  | _ :: _ :: _ :: _ :: _ :: _, h => simp at h
theorem vg_done (LL : List (List InsT)) (IN : List Int) (d : Nat) : vmG P0 P1 P2 m (fun t => startP (threadP LL t)) (fun _ => ptV d) (fun c => IN.getD c 0) (fun _ => -1) = vmL P0 P1 P2 (startV LL IN m) (fun _ => d) (.pointer none) := rfl
end
theorem upf_up {α : Type} (f : Nat → α) (y : α) (n t : Nat) : upf (fun i => if i < n then f i else y) n (f n) t = if t < n + 1 then f t else y := by
  unfold upf
  by_cases h1 : t = n
  · rw [if_pos h1, if_pos (by omega), h1]
  · rw [if_neg h1]
    by_cases h2 : t < n
    · simp only [if_pos h2, if_pos (show t < n + 1 by omega)]
    · simp only [if_neg h2, if_neg (show ¬ t < n + 1 by omega)]
theorem vg_eqW {P0 P1 P2 : Value} {m : Int} {l : Nat → LocT} {bp : Nat → Value} {mem wr wr' : Nat → Int} (h : ∀ t, t < 4 → wr t = wr' t) : vmG P0 P1 P2 m l bp mem wr = vmG P0 P1 P2 m l bp mem wr' := by
  unfold vmG
  rw [h 0 (by decide), h 1 (by decide), h 2 (by decide), h 3 (by decide)]
theorem vg_eqL {P0 P1 P2 : Value} {m : Int} {l l' : Nat → LocT} {bp bp' : Nat → Value} {mem wr : Nat → Int} (h : ∀ t, t < 4 → l t = l' t) (k : ∀ t, t < 4 → bp t = bp' t) : vmG P0 P1 P2 m l bp mem wr = vmG P0 P1 P2 m l' bp' mem wr := by
  unfold vmG
  rw [h 0 (by decide), h 1 (by decide), h 2 (by decide), h 3 (by decide), k 0 (by decide), k 1 (by decide), k 2 (by decide), k 3 (by decide)]
theorem vm_built (P0 P1 P2 : Value) (m : Int) (a b c : Option Addr) (x y z x' y' z' : Nat) (h0 : P0 = .slice a x x') (h1 : P1 = .slice b y y') (h2 : P2 = .slice c z z') : Tryz.prog.built 80 [(0, .agg #[P0, P1, P2]), (1, .int .i64 m)] = some (vmG P0 P1 P2 m (fun _ => locZ) (fun _ => .pointer none) (fun _ => 0) (fun _ => 0)).toArray := by
  subst h0 h1 h2
  kernel_rfl
section
variable {o : Oper} {a : Act} {w : World} {K : Act → World → Prop} {Q : Exit → Act → World → Prop} {ops : Array Oper} {rest : List Oper} {T : TypeId} {cs cells : Array Value} {x x0 x1 : Operand} {v0 v1 : Value}
theorem wpList_bx (hgd : o.guard = none) (ho : o.op = .box T x) (hx : a.eval x = .agg cs) (k : ∀ w', On w w' → Tb w' w.heap.size cs T → wpList Tryz.prog ops Q rest (a.put o.dst (.pointer (some ⟨w.heap.size, 0, none⟩))) w') : wpList Tryz.prog ops Q (o :: rest) a w :=
  wpList_plain hgd fun _ hK => wp_bx ho hx (fun w' h1 h2 => hK _ _ (k w' h1 h2))
theorem wpList_mk2 (hgd : o.guard = none) (ho : o.op = .build T #[(0, x0), (1, x1)]) (h0 : a.eval x0 = v0) (h1 : a.eval x1 = v1) (h : Tryz.prog.built T [(0, v0), (1, v1)] = some cells) (k : wpList Tryz.prog ops Q rest (a.put o.dst (.agg cells)) w) : wpList Tryz.prog ops Q (o :: rest) a w := by
  refine wpList_plain hgd fun K hK => ?_
  unfold Oper.wp execOp
  simp only [ho, Sem.run_bind, List.map_toArray, List.map_cons, List.map_nil, h0, h1, run_build w T #[(0, v0), (1, v1)] cells h, Result.andThen_ok]
  exact hK _ _ k
end
theorem arr4 : Tryz.prog.underlying 48 = some (.array (Tryz.prog.arrayLen 48) (Tryz.prog.elem 48)) := by kernel_rfl
theorem arr4_len : Tryz.prog.arrayLen 48 = 4 := by kernel_rfl
theorem arr4_elem : (Tryz.prog.info? (Tryz.prog.elem 48)).map (·.size) = some 1 := by kernel_rfl
theorem i64_sz : (Tryz.prog.info? 2).map (·.size) = some 1 := by kernel_rfl
theorem size_arr4 (w : World) : (sizeOf (Tryz.prog.elem 48)).run Tryz.prog w = .ok 1 w := by
  have h := arr4_elem
  cases hq : Tryz.prog.info? (Tryz.prog.elem 48) with
  | none => rw [hq] at h; cases h
  | some i =>
    rw [hq] at h
    have hi : i.size = 1 := by simpa using h
    simp [sizeOf, typeInfo, hq, hi]
theorem exec_all4 {a : Act} {o : Oper} {x : Operand} {N k : Nat} (ho : o.op = .slice 48 x none none none) (hx : a.eval x = .pointer (some ⟨N, k, none⟩)) (W : World) : (execOp a.eval o).run Tryz.prog W = .ok (.value (.slice (some ⟨N, k, none⟩) 4 4)) W := by
  have hr := run_sliceAt_array_all (P := Tryz.prog) W 48 ⟨N, k, none⟩ arr4
  rw [size_arr4, arr4_len] at hr
  have hs : slicedAt ⟨N, k, none⟩ 0 4 4 1 = .slice (some ⟨N, k, none⟩) 4 4 := by
    unfold slicedAt
    rfl
  simp only [Result.andThen_ok, hs] at hr
  unfold execOp
  simp only [ho, hx, Option.map_none, Sem.run_bind, hr, Result.andThen_ok]
  rfl
theorem i64_one (IN : List Int) : ∀ v ∈ IN.map i64V, v.oneCell' = true := by
  intro v hv
  obtain ⟨z, _, rfl⟩ := List.mem_map.1 hv
  rfl
theorem vg_range {w : World} {N : Nat} {cs : List Value} (h : Tb w N cs.toArray 80) (hl : cs.length = 38) {t : Nat} (ht : t < 4) : w.there N (4 + t * 5) 5 := h.there (by rw [List.size_toArray, hl]; omega)
/-- Where a thread is, put into its place in a machine that is being made. -/
theorem wp_lstG {o : Oper} {a : Act} {w : World} {K : Act → World → Prop} {Q : Exit → Act → World → Prop} {x y : Operand} {N t : Nat} {P0 P1 P2 : Value} {m : Int} {l : Nat → LocT} {bp : Nat → Value} {mem wr : Nat → Int} (ho : o.op = .store 73 x y) (hx : a.eval x = .pointer (some ⟨N, 4 + t * 5, none⟩)) {z : LocT} (hy : a.eval y = locV z) (h : Tb w N (vmG P0 P1 P2 m l bp mem wr).toArray 80) (ht : t < 4)
    (k : ∀ w', Tb w' N (vmG P0 P1 P2 m (upf l t z) bp mem wr).toArray 80 → OffV N w w' → K (a.put o.dst undef) w') : o.wp Tryz.prog a w K Q := by
  refine wp_store_mid 73 x y ho N (4 + t * 5) (locC z).toArray hx hy (h.there ?_) (by exact loc_sz) (by rw [Array.all_eq_true_iff_forall_mem]; exact locC_one z) ?_
  · show 4 + t * 5 + 5 ≤ 38
    omega
  · have e : w.setCells N (4 + t * 5) (locC z).toArray.toList = ((((w.setCell ⟨N, 4 + t * 5, none⟩ (i64V z.pc)).setCell ⟨N, 4 + t * 5 + 1, none⟩ (i64V z.r0)).setCell ⟨N, 4 + t * 5 + 2, none⟩ (i64V z.r1)).setCell ⟨N, 4 + t * 5 + 3, none⟩ (i64V z.r2)).setCell ⟨N, 4 + t * 5 + 4, none⟩ (i64V z.r3) := rfl
    rw [e]
    refine k _ ?_ (((((OffV.refl N w).set _ _).set _ _).set _ _).set _ _ |>.set _ _)
    have := ((((h.put (4 + t * 5) (i64V z.pc)).put (4 + t * 5 + 1) (i64V z.r0)).put (4 + t * 5 + 2) (i64V z.r1)).put (4 + t * 5 + 3) (i64V z.r2)).put (4 + t * 5 + 4) (i64V z.r3)
    rw [vg_setL z ht] at this
    exact this
/-- What New's loops carry. -/
structure NwV (N : Nat) (wv W : World) (cs : List Value) : Prop where
  tb : Tb W N cs.toArray 80
  off : OffV N wv W
set_option maxHeartbeats 8000000 in
set_option maxRecDepth 8000 in
theorem new_vm (LT : List UInt8) (IN : List Int) (LL : List (List InsT)) (v : Value) (m : Int) (w : World) (lw : Lw w) (hd : Db w) (h : ProgFl w v LT IN LL) (hA : AgOk LT IN LL) (h1 : 1 ≤ m) (h3 : m ≤ 3) :
    Calls Tryz.prog 10 #[v, .int .i64 m] w fun e w' => ∃ N P0 P1 P2 x, e = .returned (.tuple #[ptV N, .int .i64 0]) ∧ VmIn w' N P0 P1 P2 (startV LL IN m) ∧ ProgOw w.heap.size x (.agg #[P0, P1, P2]) LT IN LL ∧ On w x ∧ x.heap.size ≤ N ∧ On x w' := by
  have HP : Hid (ProgFl w v LT IN LL) := h
  have hl4 := hA.fit.loc
  have hil := hA.il
  have HI4 : Hid (IN.length ≤ 4) := by show IN.length ≤ 4; omega
  have cA := fun W (k : On w W) => again_is LT IN LL v W (lw.on k) (hd.on k) (HP.out.on k) hA
  obtain ⟨a1, c1, a2, c2, a3, c3, rfl, r1, r2, r3⟩ := h.ex
  obtain ⟨W1, hW1⟩ : ∃ W1, W1 = w.alloc (.cells #[.slice a1 LT.length c1, .slice a2 IN.length c2, .slice a3 LL.length c3] 27) := ⟨_, rfl⟩
  have K1 : Hid (On w W1) := by show On _ _; rw [hW1]; exact (On.refl w).alloc _
  have d1 : decide (m < 1) = false := decide_eq_false (by omega)
  have d3 : decide (3 < m) = false := decide_eq_false (by omega)
  have hbm : InR m := ⟨by omega, by omega⟩
  have cB := fun W => new_is m hbm W
  have HW : Hid (BW m (newB m hbm) []) := BW.new m hbm
  generalize newB m hbm = b0 at *
  clear h r1 r2 r3 hl4 hil lw hd hA h1 h3
  go_enter Tryz.func10, Tryz.ntmps10
  go_wp2_with fail
  rw [← hW1]
  refine (cA _ K1.out).mono ?_
  rintro _ w1 ⟨pv, rfl, hpv, k1⟩
  obtain ⟨b1, e1, b2, e2, b3, e3, rfl, s1, s2, s3⟩ := hpv.ex
  have HX : Hid (ProgOw (W1.heap.size + 2) w1 (.agg #[.slice b1 LT.length e1, .slice b2 IN.length e2, .slice b3 LL.length e3]) LT IN LL) := hpv
  have KX : Hid (On w w1) := K1.out.trans k1
  have LX : Hid (w.heap.size ≤ W1.heap.size + 2) := by have := K1.out.size; show _ ≤ _; omega
  have RI : Hid (Rd intC 1 w1 (.slice b2 IN.length e2) IN) := rd_i64 rfl s2
  obtain ⟨i2, hi2⟩ : ∃ i2, i2 = IN.length := ⟨_, rfl⟩
  obtain ⟨i1, hi1⟩ : ∃ i1, i1 = LT.length := ⟨_, rfl⟩
  obtain ⟨i3, hi3⟩ : ∃ i3, i3 = LL.length := ⟨_, rfl⟩
  rw [← hi2, ← hi1, ← hi3] at HX
  have HI2 : Hid (i2 = IN.length) := hi2
  rw [← hi2, ← hi1, ← hi3]
  clear hpv s1 s2 s3 k1 cA hi2 hi1 hi3
  clear hW1
  go_wp2_with (refine wpList_al rfl rfl prog_zeroV ?_)
  intro wa ka ba
  go_wp2_with (refine wpList_sto (cs := #[.slice b1 i1 e1, .slice b2 i2 e2, .slice b3 i3 e3]) rfl rfl rfl rfl ba prog_sz rfl (prog_one _ _ _ _ _ _ _ _ _) ?_)
  intro wj BJ oj
  have KJ : Hid (On w1 wj) := oj.on ka (Nat.le_refl _)
  have j0 := BJ.at (i := 0) (v := .slice b1 i1 e1) rfl
  have j1 := BJ.at (i := 1) (v := .slice b2 i2 e2) rfl
  have j2 := BJ.at (i := 2) (v := .slice b3 i3 e3) rfl
  have jl := BJ.lt
  clear ka ba oj
  go_wp2_with (first | (refine wpList_bx (cs := (vmG (.slice b1 i1 e1) (.slice b2 i2 e2) (.slice b3 i3 e3) m (fun _ => locZ) (fun _ => .pointer none) (fun _ => 0) (fun _ => 0)).toArray) rfl rfl rfl ?_) | (refine wpList_mk2 rfl rfl rfl rfl (vm_built _ _ _ _ _ _ _ _ _ _ _ _ _ rfl rfl rfl) ?_))
  intro wv kv bv
  obtain ⟨N, hN⟩ : ∃ N, N = wj.heap.size := ⟨_, rfl⟩
  have NL : Hid (w1.heap.size < N ∧ w1.heap.size ≤ N) := by
    show _ ∧ _
    rw [hN]
    exact ⟨jl, KJ.out.size⟩
  rw [← hN] at bv
  have KV : Hid (On w1 wv) := KJ.out.trans kv
  have BV := BJ.on kv
  clear j0 j1 j2 jl
  go_upto_region 7 with fail
  rw [← hN]
  clear hN
  have SA : On wv wv.drew := (On.refl wv).drew
  refine region_fz (fun W => On wv W) [6] 7 (by kernel_rfl) rfl ?_
  refine fzd_take 8 0 (v := ?_) rfl (by kernel_rfl) (by kernel_rfl) (by kernel_rfl) (by kernel_rfl) (fun _ _ _ h => h) rfl ?_ SA ?_
  rotate_left
  · intro W hW
    go_simp
    (try with_reducible rfl)
  simp only [Act.put, List.setIfInBounds_toArray, List.set_cons_zero, List.set_cons_succ]
  refine fzd_take 8 1 (v := ?_) rfl (by kernel_rfl) (by kernel_rfl) (by kernel_rfl) (by kernel_rfl) (fun _ _ _ h => h) rfl ?_ SA ?_
  rotate_left
  · intro W hW
    go_simp
    (try with_reducible rfl)
  simp only [Act.put, List.setIfInBounds_toArray, List.set_cons_zero, List.set_cons_succ]
  refine fzd_take 8 2 (v := ?_) rfl (by kernel_rfl) (by kernel_rfl) (by kernel_rfl) (by kernel_rfl) (fun _ _ _ h => h) rfl ?_ SA ?_
  rotate_left
  · intro W hW
    go_simp
    (try with_reducible rfl)
  simp only [Act.put, List.setIfInBounds_toArray, List.set_cons_zero, List.set_cons_succ]
  refine fzd_take 8 3 (v := .slice (some ⟨N, 28, none⟩) 4 4) rfl (by kernel_rfl) (by kernel_rfl) (by kernel_rfl) (by kernel_rfl) (fun _ _ _ h => h) rfl (fun W hW => exec_all4 rfl rfl W) SA ?_
  simp only [Act.put, List.setIfInBounds_toArray, List.set_cons_zero, List.set_cons_succ]
  refine fzd_take 8 4 (v := ?_) rfl (by kernel_rfl) (by kernel_rfl) (by kernel_rfl) (by kernel_rfl) (fun _ _ _ h => h) rfl ?_ SA ?_
  rotate_left
  · intro W hW
    go_simp
    (try with_reducible rfl)
  simp only [Act.put, List.setIfInBounds_toArray, List.set_cons_zero, List.set_cons_succ]
  refine fzd_take 8 5 (v := ?_) rfl (by kernel_rfl) (by kernel_rfl) (by kernel_rfl) (by kernel_rfl) (fun _ _ _ h => h) rfl ?_ SA ?_
  rotate_left
  · intro W hW
    have j1 := (BV.on hW).at (i := 1) (v := .slice b2 i2 e2) rfl
    have jl := (BV.on hW).lt
    go_simp
    (try with_reducible rfl)
  simp only [Act.put, List.setIfInBounds_toArray, List.set_cons_zero, List.set_cons_succ]
  refine fz_one 6 rfl rfl (by kernel_rfl) (fun K hK => ?_)
  refine wp_copyK (.tmp 32) (.tmp 34) _ _ rfl 2 1 Tryz.underlying24 i64_sz (g := N) (off := 28) rfl rfl (vmG (.slice b1 i1 e1) (.slice b2 i2 e2) (.slice b3 i3 e3) m (fun _ => locZ) (fun _ => .pointer none) (fun _ => 0) (fun _ => 0)) 80 (IN.map i64V) bv.drew (by rw [List.length_map, Nat.mul_one, HI2.out]; exact (Nat.min_eq_left HI4.out).symm) (by decide) (fun h0 => ?_) (by rw [List.length_map]; show 28 + IN.length ≤ 38; have := HI4.out; omega) (i64_one IN) ?_
  · rw [List.length_map] at h0
    obtain ⟨g, off, eb, hg, _⟩ := (RI.out.on (KV.out.trans (On.refl wv).drew)).at (List.getElem?_eq_getElem h0)
    refine ⟨rfl, ⟨g, off, none⟩, eb, fun j u hj => ?_⟩
    rw [List.getElem?_map] at hj
    cases hx : IN[j]? with
    | none => rw [hx] at hj; cases hj
    | some z =>
      rw [hx] at hj
      obtain ⟨g', off', eb', hg', hc'⟩ := (RI.out.on (KV.out.trans (On.refl wv).drew)).at hx
      have hq := hc' 0 _ rfl
      rw [eb] at eb'
      simp only [Option.some.injEq, Addr.mk.injEq, and_true] at eb'
      rw [← eb'.1, ← eb'.2, Nat.mul_one] at hq
      rw [Addr.add_lit]
      rw [← Option.some.inj hj]
      exact hq
  · rw [vg_copy IN HI4.out]
    refine hK.out _ _ (fun hq => (hq (by simp)).elim) ?_
    clear hK

    refine fz_done (by kernel_rfl) (NoPanic.normal ?_)
    have J7 : Hid (NwV N wv (wv.drew.setRow N (vmG (.slice b1 i1 e1) (.slice b2 i2 e2) (.slice b3 i3 e3) m (fun _ => locZ) (fun _ => .pointer none) (fun c => IN.getD c 0) (fun _ => 0)).toArray) (vmG (.slice b1 i1 e1) (.slice b2 i2 e2) (.slice b3 i3 e3) m (fun _ => locZ) (fun _ => .pointer none) (fun c => IN.getD c 0) (fun _ => 0))) := ⟨bv.drew.row _, (OffV.of (On.refl wv).drew).row _⟩
    clear SA
    go_wp2
    go_loopg [36] 4 (fun gg s36 wq => ∃ n : Nat, n ≤ 4 ∧ gg = 4 - n ∧ s36 = .int .i64 n ∧ Hid (NwV N wv wq (vmG (.slice b1 i1 e1) (.slice b2 i2 e2) (.slice b3 i3 e3) m (fun _ => locZ) (fun _ => .pointer none) (fun c => IN.getD c 0) (fun i => if i < n then -1 else 0))))
    case atStart => exact ⟨0, by decide, rfl, rfl, by rw [vg_eqW (wr' := fun _ => 0) (fun t _ => rfl)]; exact J7.out⟩
    case round =>
      clear J7
      obtain ⟨n, hn, hg, rfl, HJ⟩ := hrel
      rcases Nat.lt_or_ge n 4 with hlt | hge
      · have x1 := HJ.out.tb.at (vg_wr hlt)
        have xf := HJ.out.tb.bk.fr (32 + n)
        have xl := HJ.out.tb.lt
        have b1' : (n : Int) < 4 := by omega
        have b2' : decide ((n : Int) < 0) = false := decide_eq_false (by omega)
        have b4' : (0 : Int) ≤ (n : Int) := by omega
        have T2 := HJ.out.tb.put (32 + n) (.int .i64 (-1))
        have O2 := HJ.out.off.set (32 + n) (.int .i64 (-1))
        have eW : vmG (.slice b1 i1 e1) (.slice b2 i2 e2) (.slice b3 i3 e3) m (fun _ => locZ) (fun _ => .pointer none) (fun c => IN.getD c 0) (upf (fun i => if i < n then -1 else 0) n (-1)) = vmG (.slice b1 i1 e1) (.slice b2 i2 e2) (.slice b3 i3 e3) m (fun _ => locZ) (fun _ => .pointer none) (fun c => IN.getD c 0) (fun i => if i < n + 1 then -1 else 0) := vg_eqW (fun t _ => upf_up (fun _ => -1) 0 n t)
        rw [vg_setW _ hlt, eW] at T2
        have J2 : Hid (NwV N wv _ _) := ⟨T2, O2⟩
        clear T2 O2 eW
        have hov := up_one hlt (by decide)
        have hov2 := up_two hlt (by decide)
        go_wp2
        go_roundg (4 - (n + 1))
        case measure => clear hov hov2; omega
        case rel => exact ⟨n + 1, hlt, rfl, rfl, J2⟩
      · obtain rfl : n = 4 := by omega
        have NE : Hid (w1.heap.size ≠ N) := by have := NL.out; show _ ≠ _; omega
        have BW1 := HJ.out.off.tk BV NE.out
        have KW : Hid (On w1 wr) := HJ.out.off.on KV.out NL.out.2
        have TW := HJ.out.tb
        rw [vg_eqW (wr' := fun _ => -1) (fun t h => if_pos h)] at TW
        clear hg hn hge
        go_wp2_with fail
        refine (cB _).mono ?_
        rintro _ w3 ⟨rfl, k3⟩
        go_wp2_with (refine wpList_al rfl rfl buf_zero ?_)
        intro wa ka ba
        go_wp2_with (refine wpList_sto (cs := bufA b0) rfl rfl rfl rfl ba (by rw [bufA_size]; exact buf_sz) (by rw [bufA_size]; rfl) (bufA_one _) ?_)
        intro wb bb ob
        obtain ⟨NB, hNB⟩ : ∃ NB, NB = w3.heap.size := ⟨_, rfl⟩
        have KB : On wr wb := ob.on (k3.trans ka) k3.size
        rw [← hNB] at bb
        have HBB : Hid (Tb wb NB (bufA b0) 85) := bb
        have HT : Hid (BW1 = BW1) := rfl
        have PB := BW1.on KB
        have TB := TW.on KB
        have KBB : Hid (On w1 wb) := KW.out.trans KB
        have NEB : Hid (NB ≠ N) := bb.ne TB (Ne.symm vm_ne_buf)
        clear ka ba ob k3 HT bb KW TW BW1 KB
        go_wp2_with fail
        rw [← hNB]
        clear hNB
        have J0 : Hid (NwV N wb wb (vmG (.slice b1 i1 e1) (.slice b2 i2 e2) (.slice b3 i3 e3) m (fun t => if t < 0 then startP (threadP LL t) else locZ) (fun t => if t < 0 then ptV NB else .pointer none) (fun c => IN.getD c 0) (fun _ => -1))) := ⟨by rw [show (vmG (.slice b1 i1 e1) (.slice b2 i2 e2) (.slice b3 i3 e3) m (fun t => if t < 0 then startP (threadP LL t) else locZ) (fun t => if t < 0 then ptV NB else .pointer none) (fun c => IN.getD c 0) (fun _ => -1)) = vmG (.slice b1 i1 e1) (.slice b2 i2 e2) (.slice b3 i3 e3) m (fun _ => locZ) (fun _ => .pointer none) (fun c => IN.getD c 0) (fun _ => -1) from vg_eqL (fun t _ => rfl) (fun t _ => rfl)]; exact TB, OffV.refl N wb⟩
        clear TB
        go_loopg [47] 4 (fun gg s47 wq => ∃ n : Nat, n ≤ 4 ∧ gg = 4 - n ∧ s47 = .int .i64 n ∧ Hid (NwV N wb wq (vmG (.slice b1 i1 e1) (.slice b2 i2 e2) (.slice b3 i3 e3) m (fun t => if t < n then startP (threadP LL t) else locZ) (fun t => if t < n then ptV NB else .pointer none) (fun c => IN.getD c 0) (fun _ => -1))))
        case atStart => exact ⟨0, by decide, rfl, rfl, J0⟩
        case round =>
          clear J0 HJ
          obtain ⟨n, hn, hg, rfl, HJ⟩ := hrel
          have OW : Hid (On w1 wr) := HJ.out.off.on KBB.out NL.out.2
          have PW := HJ.out.off.tk PB NE.out
          rcases Nat.lt_or_ge n 4 with hlt | hge
          · have cS : ∀ W, On w1 W → Calls Tryz.prog 33 #[.agg #[.slice b1 i1 e1, .slice b2 i2 e2, .slice b3 i3 e3], .int .i64 n] W fun e w' => e = .returned (locV (startP (threadP LL n))) ∧ On W w' := fun W k => start_is LL n _ W (HX.out.on k).fl.rd
            have b1' : (n : Int) < 4 := by omega
            have b2' : decide ((n : Int) < 0) = false := decide_eq_false (by omega)
            have b4' : (0 : Int) ≤ (n : Int) := by omega
            have hov := up_one hlt (by decide)
            have hov2 := up_two hlt (by decide)
            go_upto_region 17 with fail
            have SA : On wr wr.drew := (On.refl wr).drew
            refine region_fz (fun W => On wr W) [8] 9 (by kernel_rfl) rfl ?_
            refine fzd_take 8 0 (v := ?_) rfl (by kernel_rfl) (by kernel_rfl) (by kernel_rfl) (by kernel_rfl) (fun _ _ _ h => h) rfl ?_ SA ?_
            rotate_left
            · intro W hW
              go_simp
              (try with_reducible rfl)
            simp only [Act.put, List.setIfInBounds_toArray, List.set_cons_zero, List.set_cons_succ]
            refine fzd_take 8 1 (v := ?_) rfl (by kernel_rfl) (by kernel_rfl) (by kernel_rfl) (by kernel_rfl) (fun _ _ _ h => h) rfl ?_ SA ?_
            rotate_left
            · intro W hW
              go_simp
              (try with_reducible rfl)
            simp only [Act.put, List.setIfInBounds_toArray, List.set_cons_zero, List.set_cons_succ]
            refine fzd_take 8 2 (v := ?_) rfl (by kernel_rfl) (by kernel_rfl) (by kernel_rfl) (by kernel_rfl) (fun _ _ _ h => h) rfl ?_ SA ?_
            rotate_left
            · intro W hW
              have j0 := (PW.on hW).at (i := 0) (v := .slice b1 i1 e1) rfl
              have j1 := (PW.on hW).at (i := 1) (v := .slice b2 i2 e2) rfl
              have j2 := (PW.on hW).at (i := 2) (v := .slice b3 i3 e3) rfl
              have jl := (PW.on hW).lt
              go_simp
              (try with_reducible rfl)
            simp only [Act.put, List.setIfInBounds_toArray, List.set_cons_zero, List.set_cons_succ]
            refine fzd_take 8 3 (v := ?_) rfl (by kernel_rfl) (by kernel_rfl) (by kernel_rfl) (by kernel_rfl) (fun _ _ _ h => h) rfl ?_ SA ?_
            rotate_left
            · intro W hW
              go_simp
              (try with_reducible rfl)
            simp only [Act.put, List.setIfInBounds_toArray, List.set_cons_zero, List.set_cons_succ]
            refine fzd_take 8 5 (v := ?_) rfl (by kernel_rfl) (by kernel_rfl) (by kernel_rfl) (by kernel_rfl) (fun _ _ _ h => h) rfl ?_ SA ?_
            rotate_left
            · intro W hW
              go_simp
              (try with_reducible rfl)
            simp only [Act.put, List.setIfInBounds_toArray, List.set_cons_zero, List.set_cons_succ]
            refine fzd_take 8 6 (v := ?_) rfl (by kernel_rfl) (by kernel_rfl) (by kernel_rfl) (by kernel_rfl) (fun _ _ _ h => h) rfl ?_ SA ?_
            rotate_left
            · intro W hW
              go_simp
              (try with_reducible rfl)
            simp only [Act.put, List.setIfInBounds_toArray, List.set_cons_zero, List.set_cons_succ]
            refine fz_one 4 rfl rfl (by kernel_rfl) (fun K hK => ?_)
            go_simp
            refine (cS _ (OW.out.trans SA)).mono ?_
            rintro _ wc ⟨rfl, kc⟩
            have SC : On wr wc := SA.trans kc
            refine hK.out _ _ (fun _ => SC) ?_
            clear hK kc
            refine fzd_take 8 7 (v := ?_) rfl (by kernel_rfl) (by kernel_rfl) (by kernel_rfl) (by kernel_rfl) (fun _ _ _ h => h) rfl ?_ SC ?_
            rotate_left
            · intro W hW
              go_simp
              (try with_reducible rfl)
            simp only [Act.put, List.setIfInBounds_toArray, List.set_cons_zero, List.set_cons_succ]
            refine fz_one 8 rfl rfl (by kernel_rfl) (fun K hK => ?_)
            refine wp_lstG (z := startP (threadP LL n)) rfl rfl rfl (HJ.out.tb.on SC) hlt (fun wk TK ok => ?_)
            refine hK.out _ _ (fun hq => (hq (by simp)).elim) ?_
            clear hK
            refine fz_done (by kernel_rfl) (NoPanic.normal ?_)
            have x1 := TK.at (vg_bp hlt)
            have xf := TK.bk.fr (24 + n)
            have xl := TK.lt
            have TZ := TK.put (24 + n) (ptV NB)
            have OZ := ((HJ.out.off.trans (OffV.of SC)).trans ok).set (24 + n) (ptV NB)
            have eZ : vmG (.slice b1 i1 e1) (.slice b2 i2 e2) (.slice b3 i3 e3) m (upf (fun t => if t < n then startP (threadP LL t) else locZ) n (startP (threadP LL n))) (upf (fun t => if t < n then ptV NB else .pointer none) n (ptV NB)) (fun c => IN.getD c 0) (fun _ => -1) = (vmG (.slice b1 i1 e1) (.slice b2 i2 e2) (.slice b3 i3 e3) m (fun t => if t < n + 1 then startP (threadP LL t) else locZ) (fun t => if t < n + 1 then ptV NB else .pointer none) (fun c => IN.getD c 0) (fun _ => -1)) := vg_eqL (fun t _ => upf_up (fun t => startP (threadP LL t)) locZ n t) (fun t _ => upf_up (fun _ => ptV NB) (.pointer none) n t)
            rw [vg_setB hlt, eZ] at TZ
            have J2 : Hid (NwV N wb _ _) := ⟨TZ, OZ⟩
            clear SA TK ok TZ OZ eZ SC cS PW
            go_wp2
            go_roundg (4 - (n + 1))
            case measure => clear hov hov2; omega
            case rel => exact ⟨n + 1, hlt, rfl, rfl, J2⟩
          · obtain rfl : n = 4 := by omega
            have TW := HJ.out.tb
            rw [show (vmG (.slice b1 i1 e1) (.slice b2 i2 e2) (.slice b3 i3 e3) m (fun t => if t < 4 then startP (threadP LL t) else locZ) (fun t => if t < 4 then ptV NB else .pointer none) (fun c => IN.getD c 0) (fun _ => -1)) = vmG (.slice b1 i1 e1) (.slice b2 i2 e2) (.slice b3 i3 e3) m (fun t => startP (threadP LL t)) (fun _ => ptV NB) (fun c => IN.getD c 0) (fun _ => -1) from vg_eqL (fun t h => if_pos h) (fun t h => if_pos h), vg_done LL IN NB] at TW
            have BB := HJ.out.off.tk HBB.out NEB.out
            clear hg hn hge PW
            go_wp2
            go_ret2
            refine ⟨N, _, _, _, w1, rfl, ⟨fun _ => NB, .pointer none, TW, fun t _ => ⟨b0, BB, HW.out⟩, rfl⟩, HX.out.mono LX.out, KX.out, NL.out.2, OW.out⟩
end Go.Proofs.YtplihlmejnohnaaGreatDoor
