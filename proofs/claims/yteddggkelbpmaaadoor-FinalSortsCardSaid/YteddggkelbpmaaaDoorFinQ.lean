/- The document's Sort: for every row of ends. -/
import Derived.Test.YteddggkelbpmaaaDoorFinR
import Derived.Test.YteddggkelbpmaaaDoorFinM
namespace Go.Proofs.YteddggkelbpmaaaDoor
open Go.RowKit

theorem exec_sl {a : Act} {o : Oper} {t : TypeId} {x : Operand} {lo hi : Option Operand} (ho : o.op = .slice t x lo hi none) {V : Value} {W : World} (h : (Instr.sliceAt t (a.eval x) (lo.map a.eval) (hi.map a.eval) none).run Tryd.prog W = .ok V W) : (execOp a.eval o).run Tryd.prog W = .ok (.value V) W := by
  unfold execOp
  simp only [ho, Option.map_none, Sem.run_bind, h, Result.andThen_ok]
  rfl
theorem rd_at' {W : World} {a : Option Addr} {c n : Nat} {L : List FinT} {x : FinT} (h : Rd finC 20 W (.slice a L.length c) L) (hx : L[n]? = some x) : ∃ g o, a = some ⟨g, o, none⟩ ∧ ∀ W', On W W' → W'.rangeAt g (o + n * 20) (finC x) := by
  obtain ⟨g, o, e, _, _⟩ := h.at hx
  refine ⟨g, o, e, fun W' k => ?_⟩
  obtain ⟨g', o', e', _, hc⟩ := (h.on k).at hx
  rw [e] at e'
  simp only [Option.some.injEq, Addr.mk.injEq] at e'
  obtain ⟨rfl, rfl, _⟩ := e'
  exact hc
theorem own_base {W : World} {b1 b2 k n : Nat} {e : TypeId} {v : Value} {xs : List Value} (h : W.ownsRow b1 e k v n xs) (hb : b2 ≤ b1) : W.ownsRow b2 e k v n xs := by
  refine ⟨h.1, ?_⟩
  rcases h.2 with h2 | ⟨g, cap, cur, hv, hg, r⟩
  · exact Or.inl h2
  · exact Or.inr ⟨g, cap, cur, hv, Nat.le_trans hb hg, r⟩
theorem own_shape {W : World} {base : Nat} {v : Value} {M : List FinT} (h : W.ownsRow base 26 20 v M.length (M.flatMap finC)) : ∃ a c, v = .slice a M.length c ∧ M.length ≤ c ∧ (a = none ∨ ∃ g, a = some ⟨g, 0, none⟩) := by
  rcases h.2 with ⟨hv, hl⟩ | ⟨g, cap, cur, hv, _, _, hc, _⟩
  · exact ⟨none, 0, by rw [hv, hl], by omega, Or.inl rfl⟩
  · exact ⟨_, cap, hv, hc, Or.inr ⟨g, rfl⟩⟩
theorem sl_take {a : Option Addr} {n c k : Nat} (ha : a = none ∨ ∃ g, a = some ⟨g, 0, none⟩) (hk : k ≤ c) (W : World) : (Instr.sliceAt 36 (.slice a n c) none (some (.int .i64 k)) none).run Tryd.prog W = .ok (.slice a k c) W := by
  have e : (0 : Int) ≤ (k : Int) ∧ (k : Int) ≤ (c : Int) := by omega
  have hs := Tryd.sizeOf26 W
  rcases ha with rfl | ⟨g, rfl⟩
  · simp [Instr.sliceAt, Instr.slice, Instr.sliceBounds, Instr.sliceBound, asIntOf, run_underlying Tryd.underlying36, e, hs, hk]
  · simp [Instr.sliceAt, Instr.slice, Instr.sliceBounds, Instr.sliceBound, asIntOf, run_underlying Tryd.underlying36, e, hs, hk, Addr.add_lit]
theorem sl_drop {a : Option Addr} {n c k : Nat} (hk : k ≤ n) (W : World) : (Instr.sliceAt 36 (.slice a n c) (some (.int .i64 k)) none none).run Tryd.prog W = .ok (.slice (if c = k then a else a.map (·.add (k * 20))) (n - k) (c - k)) W := by
  have e : (0 : Int) ≤ (k : Int) ∧ (k : Int) ≤ (n : Int) := by omega
  have hs := Tryd.sizeOf26 W
  simp [Instr.sliceAt, Instr.slice, Instr.sliceBounds, Instr.sliceBound, asIntOf, run_underlying Tryd.underlying36, e, hs, hk]
theorem rd_takeF {W : World} {a : Option Addr} {c : Nat} {L : List FinT} (h : Rd finC 20 W (.slice a L.length c) L) {k : Nat} (hk : k ≤ L.length) : Rd finC 20 W (.slice a k c) (L.take k) := by
  obtain ⟨a', c', hv, hc, hm, hr⟩ := h
  simp only [Value.slice.injEq] at hv
  obtain ⟨rfl, _, rfl⟩ := hv
  have hl : (L.take k).length = k := by rw [List.length_take]; omega
  refine ⟨a, c, by rw [hl], by omega, by omega, fun h0 => ?_⟩
  obtain ⟨g, off, ha, hg, hcell⟩ := hr (by omega)
  refine ⟨g, off, ha, hg, fun i x j u hi hj => hcell i x j u ?_ hj⟩
  rw [List.getElem?_take] at hi
  split at hi
  · exact hi
  · cases hi
theorem rd_dropF {W : World} {a : Option Addr} {c : Nat} {L : List FinT} (h : Rd finC 20 W (.slice a L.length c) L) {k : Nat} (hk : k ≤ L.length) : Rd finC 20 W (.slice (if c = k then a else a.map (·.add (k * 20))) (L.drop k).length (c - k)) (L.drop k) := by
  obtain ⟨a', c', hv, hc, hm, hr⟩ := h
  simp only [Value.slice.injEq] at hv
  obtain ⟨rfl, _, rfl⟩ := hv
  have hl : (L.drop k).length = L.length - k := List.length_drop
  refine ⟨_, c - k, rfl, by omega, by omega, fun h0 => ?_⟩
  obtain ⟨g, off, ha, hg, hcell⟩ := hr (by omega)
  subst ha
  rw [if_neg (by omega)]
  refine ⟨g, off + k * 20, by simp [Addr.add_lit], hg, fun i x j u hi hj => ?_⟩
  rw [List.getElem?_drop] at hi
  have := hcell (k + i) x j u hi hj
  rw [show off + k * 20 + i * 20 + j = off + (k + i) * 20 + j by omega]
  exact this
theorem ris_mid {M : List FinT} {f : FinT} {k : Nat} (h : Ris M) (h1 : ∀ y ∈ M.take k, finCmp y f < 0) (h2 : ∀ y ∈ M.drop k, finCmp f y < 0) : Ris (M.take k ++ [f] ++ M.drop k) := by
  have hs : M.take k ++ M.drop k = M := List.take_append_drop k M
  have hp : (M.take k ++ M.drop k).Pairwise (fun a b => finCmp a b < 0) := by rw [hs]; exact h
  obtain ⟨p1, p2, p3⟩ := List.pairwise_append.1 hp
  unfold Ris
  rw [List.append_assoc]
  refine List.pairwise_append.2 ⟨p1, List.pairwise_append.2 ⟨List.pairwise_singleton _ _, p2, fun x hx y hy => ?_⟩, fun x hx y hy => ?_⟩
  · rw [List.mem_singleton] at hx
    subst hx
    exact h2 y hy
  · rcases List.mem_append.1 hy with hy | hy
    · rw [List.mem_singleton] at hy
      subst hy
      exact h1 x hx
    · exact p3 x hx y hy
theorem above {M : List FinT} {f y : FinT} {k : Nat} (h : Ris M) (hy : M[k]? = some y) (hf : finCmp f y < 0) : ∀ z ∈ M.drop k, finCmp f z < 0 := by
  intro z hz
  rw [drop_at hy] at hz
  rcases List.mem_cons.1 hz with rfl | hz
  · exact hf
  · have hp : (M.take k ++ M.drop k).Pairwise (fun a b => finCmp a b < 0) := by rw [List.take_append_drop]; exact h
    have p2 := (List.pairwise_append.1 hp).2.1
    rw [drop_at hy] at p2
    exact ord_fin.trans _ _ _ hf ((List.pairwise_cons.1 p2).1 z hz)
set_option maxRecDepth 8000 in
set_option maxHeartbeats 4000000 in
theorem rsort_is (A : List FinT) (a : Option Addr) (c : Nat) (w : World) (hA : Rd finC 20 w (.slice a A.length c) A) (la : A.length ≤ 100000) :
    Calls Tryd.prog 16 #[.slice a A.length c] w fun e w' => ∃ (v : Value) (M : List FinT), e = .returned v ∧ On w w' ∧ Rd finC 20 w' v M ∧ Ris M ∧ M.length ≤ A.length ∧ ∀ x, x ∈ M ↔ x ∈ A := by
  obtain ⟨_, _, _, _, ma⟩ := hA.slice
  have HA : Hid (Rd finC 20 w (.slice a A.length c) A) := hA
  have LA : Hid (A.length ≤ 100000) := la
  clear hA la
  go_enter Tryd.func16, Tryd.ntmps16
  go_wp2
  go_loopg [3, 4] A.length (fun gg s3 s4 wq => ∃ (n : Nat) (M : List FinT), n ≤ A.length ∧ gg = A.length - n ∧ s4 = .int .i64 n ∧ M.length ≤ n ∧ Hid (On w wq) ∧ Hid (wq.ownsRow w.heap.size 26 20 s3 M.length (M.flatMap finC)) ∧ Hid (Ris M) ∧ Hid (∀ x, x ∈ M ↔ x ∈ A.take n))
  case atStart => exact ⟨0, [], Nat.zero_le _, rfl, rfl, Nat.le_refl _, On.refl w, World.ownsRow_nil _ _ _ _, Ris.nil, fun x => by simp⟩
  case round =>
    obtain ⟨n, M, hn, hk, rfl, hX, HO, HN, HM, HI⟩ := hrel
    obtain ⟨a3, c3, rfl, hc3, ha3⟩ := own_shape HN.out
    rcases Nat.lt_or_ge n A.length with hlt | hge
    · obtain ⟨f, hf⟩ : ∃ f, A[n]? = some f := ⟨_, List.getElem?_eq_getElem hlt⟩
      obtain ⟨g1, o1, rfl, hRF⟩ := rd_at' HA.out hf
      have bn0 : (0 : Int) ≤ (n : Int) := by omega
      have bn1 : (n : Int) < (A.length : Int) := by omega
      have HT : Hid (A.take (n + 1) = A.take n ++ [f]) := by show _ = _; rw [List.take_add_one, hf]; rfl
      have HRF : Hid (∀ W', On w W' → W'.rangeAt g1 (o1 + n * 20) (finC f)) := hRF
      have HA3 : Hid (a3 = none ∨ ∃ g, a3 = some ⟨g, 0, none⟩) := ha3
      have hmM : M.length ≤ 9223372036854775807 := by omega
      have HRM : Hid (Rd finC 20 wr (.slice a3 M.length c3) M) := Rd.own finC_len HN.out
      clear hf hRF ha3
      go_wp2
      obtain ⟨wo, hwo⟩ : ∃ wo, wo = wr := ⟨_, rfl⟩
      subst hwo
      have RF : Hid (∀ W, On wo W → W.rangeAt g1 (o1 + n * 20) (finC f)) := fun W k => HRF.out W (HO.out.trans k)
      go_loopg [5] M.length (fun gg s5 wq => ∃ k : Nat, k ≤ M.length ∧ gg = M.length - k ∧ s5 = .int .i64 k ∧ Hid (On wo wq) ∧ Hid (∀ y ∈ M.take k, finCmp y f < 0))
      case atStart => exact ⟨0, Nat.zero_le _, rfl, rfl, On.refl wo, fun y hy => by simp at hy⟩
      case round =>
        obtain ⟨k, hkM, hk2, rfl, HK, HY⟩ := hrel
        have S0 : On wo wr.drew := HK.out.drew
        have bk0 : (0 : Int) ≤ (k : Int) := by omega
        have HSL1 : Hid (∀ W, (Instr.sliceAt 36 (.slice a3 M.length c3) none (some (.int .i64 k)) none).run Tryd.prog W = .ok (.slice a3 k c3) W) := fun W => sl_take HA3.out (by omega) W
        obtain ⟨a4, ha4⟩ : ∃ a4, a4 = if c3 = k then a3 else a3.map (·.add (k * 20)) := ⟨_, rfl⟩
        obtain ⟨c4, hc4⟩ : ∃ c4, c4 = c3 - k := ⟨_, rfl⟩
        obtain ⟨dl, hdl⟩ : ∃ dl, dl = (M.drop k).length := ⟨_, rfl⟩
        have HDL : Hid (dl = (M.drop k).length) := hdl
        have HSL2 : Hid (∀ W, (Instr.sliceAt 36 (.slice a3 M.length c3) (some (.int .i64 k)) none none).run Tryd.prog W = .ok (.slice a4 dl c4) W) := fun W => by
          rw [ha4, hc4, hdl, List.length_drop]
          exact sl_drop hkM W
        have HA4 : Hid (a4 = if c3 = k then a3 else a3.map (·.add (k * 20))) := ha4
        have HC4 : Hid (c4 = c3 - k) := hc4
        have HTn : Hid ((M.take k).length = k) := by show _ = _; rw [List.length_take]; omega
        have HLA2 := LA.out
        have HLT : Hid ((M.take k).length ≤ 1000000) := by show _ ≤ _; rw [List.length_take]; omega
        have HL1 : Hid ((M.take k).length + [f].length ≤ 1000000) := by show _ ≤ _; rw [List.length_take, List.length_singleton]; omega
        have HL2 : Hid ((M.take k ++ [f]).length + (M.drop k).length ≤ 1000000) := by show _ ≤ _; rw [List.length_append, List.length_take, List.length_drop, List.length_singleton]; omega
        clear HLA2 ha4 hc4 hdl
        rcases Nat.lt_or_ge k M.length with hltk | hgek
        · obtain ⟨y, hy⟩ : ∃ y, M[k]? = some y := ⟨_, List.getElem?_eq_getElem hltk⟩
          obtain ⟨g2, o2, rfl, hRY⟩ := rd_at' HRM.out hy
          have RY : Hid (∀ W, On wo W → W.rangeAt g2 (o2 + k * 20) (finC y)) := hRY
          have bk1 : (k : Int) < (M.length : Int) := by omega
          have dk : decide (k < M.length) = true := decide_eq_true hltk
          have hless := fun W => rless_is y f W
          by_cases hyf : finCmp y f < 0
          · rw [decide_eq_true hyf] at hless
            have HY2 : Hid (∀ z ∈ M.take (k + 1), finCmp z f < 0) := fun z hz => by
              rw [List.take_add_one, hy] at hz
              rcases List.mem_append.1 hz with h | h
              · exact HY.out z h
              · simp at h
                rw [h]
                exact hyf
            clear hy hRY hyf HY HSL1 HSL2 HA4 HC4 HDL HTn HLT HL1 HL2
            go_wp2
            refine region_fin (fun W => On wo W) 99 15 (by kernel_rfl) rfl ?_
            refine fin_take 0 (v := ?_) rfl (by kernel_rfl) (by kernel_rfl) (by kernel_rfl) (by kernel_rfl) (fun _ _ _ h => h) rfl ?_ S0 ?_
            rotate_left
            · intro W hW
              go_simp
              (try with_reducible rfl)
            simp only [Act.put, List.setIfInBounds_toArray, List.set_cons_zero, List.set_cons_succ]
            refine fin_take 1 (v := ?_) rfl (by kernel_rfl) (by kernel_rfl) (by kernel_rfl) (by kernel_rfl) (fun _ _ _ h => h) rfl ?_ S0 ?_
            rotate_left
            · intro W hW
              go_simp
              (try with_reducible rfl)
            simp only [Act.put, List.setIfInBounds_toArray, List.set_cons_zero, List.set_cons_succ]
            refine fin_take 2 (v := ?_) rfl (by kernel_rfl) (by kernel_rfl) (by kernel_rfl) (by kernel_rfl) (fun _ _ _ h => h) rfl ?_ S0 ?_
            rotate_left
            · intro W hW
              go_simp
              (try with_reducible rfl)
            simp only [Act.put, List.setIfInBounds_toArray, List.set_cons_zero, List.set_cons_succ]
            refine fin_take 3 (v := ?_) rfl (by kernel_rfl) (by kernel_rfl) (by kernel_rfl) (by kernel_rfl) (fun _ _ _ h => h) rfl ?_ S0 ?_
            rotate_left
            · intro W hW
              go_simp
              (try with_reducible rfl)
            simp only [Act.put, List.setIfInBounds_toArray, List.set_cons_zero, List.set_cons_succ]
            refine fin_take 4 (v := ?_) rfl (by kernel_rfl) (by kernel_rfl) (by kernel_rfl) (by kernel_rfl) (fun _ _ _ h => h) rfl ?_ S0 ?_
            rotate_left
            · intro W hW
              go_simp
              (try with_reducible rfl)
            simp only [Act.put, List.setIfInBounds_toArray, List.set_cons_zero, List.set_cons_succ]
            refine fin_takeG 5 (v := ?_) rfl (by kernel_rfl) (by kernel_rfl) (by kernel_rfl) (by kernel_rfl) (fun _ _ _ h => h) (by rfl) ?_ S0 ?_
            rotate_left
            · intro W hW
              go_simp
              (try with_reducible rfl)
            simp only [Act.put, List.setIfInBounds_toArray, List.set_cons_zero, List.set_cons_succ]
            refine fin_takeG 6 (v := ?_) rfl (by kernel_rfl) (by kernel_rfl) (by kernel_rfl) (by kernel_rfl) (fun _ _ _ h => h) (by rfl) ?_ S0 ?_
            rotate_left
            · intro W hW
              go_simp
              (try with_reducible rfl)
            simp only [Act.put, List.setIfInBounds_toArray, List.set_cons_zero, List.set_cons_succ]
            refine fin_takeG 7 (v := ?_) rfl (by kernel_rfl) (by kernel_rfl) (by kernel_rfl) (by kernel_rfl) (fun _ _ _ h => h) (by rfl) ?_ S0 ?_
            rotate_left
            · intro W hW
              go_simp
              (try with_reducible rfl)
            simp only [Act.put, List.setIfInBounds_toArray, List.set_cons_zero, List.set_cons_succ]
            refine fin_takeG 8 (v := .agg (finA y)) rfl (by kernel_rfl) (by kernel_rfl) (by kernel_rfl) (by kernel_rfl) (fun _ _ _ h => h) (by rfl) (fun W hW => exec_fld rfl rfl (RY.out W hW)) S0 ?_
            simp only [Act.put, List.setIfInBounds_toArray, List.set_cons_zero, List.set_cons_succ]
            refine fin_takeG 9 (v := ?_) rfl (by kernel_rfl) (by kernel_rfl) (by kernel_rfl) (by kernel_rfl) (fun _ _ _ h => h) (by rfl) ?_ S0 ?_
            rotate_left
            · intro W hW
              go_simp
              (try with_reducible rfl)
            simp only [Act.put, List.setIfInBounds_toArray, List.set_cons_zero, List.set_cons_succ]
            refine fin_takeG 10 (v := ?_) rfl (by kernel_rfl) (by kernel_rfl) (by kernel_rfl) (by kernel_rfl) (fun _ _ _ h => h) (by rfl) ?_ S0 ?_
            rotate_left
            · intro W hW
              go_simp
              (try with_reducible rfl)
            simp only [Act.put, List.setIfInBounds_toArray, List.set_cons_zero, List.set_cons_succ]
            refine fin_takeG 11 (v := ?_) rfl (by kernel_rfl) (by kernel_rfl) (by kernel_rfl) (by kernel_rfl) (fun _ _ _ h => h) (by rfl) ?_ S0 ?_
            rotate_left
            · intro W hW
              go_simp
              (try with_reducible rfl)
            simp only [Act.put, List.setIfInBounds_toArray, List.set_cons_zero, List.set_cons_succ]
            refine fin_takeG 12 (v := .agg (finA f)) rfl (by kernel_rfl) (by kernel_rfl) (by kernel_rfl) (by kernel_rfl) (fun _ _ _ h => h) (by rfl) (fun W hW => exec_fld rfl rfl (RF.out W hW)) S0 ?_
            simp only [Act.put, List.setIfInBounds_toArray, List.set_cons_zero, List.set_cons_succ]
            refine fin_oneG 13 rfl (by rfl) (by kernel_rfl) (fun K hK => ?_)
            go_simp
            refine (hless _).mono ?_
            rintro _ w3 ⟨rfl, k3⟩
            have S4 : On wo w3 := S0.trans k3
            refine hK.out _ _ (fun _ => S4) ?_
            clear hK
            refine fin_take 14 (v := ?_) rfl (by kernel_rfl) (by kernel_rfl) (by kernel_rfl) (by kernel_rfl) (fun _ _ _ h => h) rfl ?_ S4 ?_
            rotate_left
            · intro W hW
              go_simp
              (try with_reducible rfl)
            simp only [Act.put, List.setIfInBounds_toArray, List.set_cons_zero, List.set_cons_succ]
            refine fin_done (by kernel_rfl) (NoPanic.normal ?_)
            go_wp2
            go_roundg (M.length - (k + 1))
            case measure => omega
            case rel => exact ⟨k + 1, by omega, rfl, by go_num, S4, HY2⟩
          · rw [decide_eq_false hyf] at hless
            by_cases hey : y = f
            · have HE : Hid (f ∈ M) := by rw [← hey]; exact List.mem_of_getElem? hy
              have hde : decide (y = f) = true := decide_eq_true hey
              have HDE : Hid (decide (y = f) = true) := hde
              have HI2 : Hid (∀ x, x ∈ M ↔ x ∈ A.take (n + 1)) := fun x => by
                rw [HT.out, List.mem_append, ← HI.out x, List.mem_singleton]
                constructor
                · exact fun h => Or.inl h
                · rintro (h | h)
                  · exact h
                  · rw [h]; exact HE.out
              clear hy hRY hyf HY HSL1 HSL2 HA4 HC4 HDL HTn HLT HL1 HL2 hde hey
              go_wp2
              refine region_fin (fun W => On wo W) 99 15 (by kernel_rfl) rfl ?_
              refine fin_take 0 (v := ?_) rfl (by kernel_rfl) (by kernel_rfl) (by kernel_rfl) (by kernel_rfl) (fun _ _ _ h => h) rfl ?_ S0 ?_
              rotate_left
              · intro W hW
                go_simp
                (try with_reducible rfl)
              simp only [Act.put, List.setIfInBounds_toArray, List.set_cons_zero, List.set_cons_succ]
              refine fin_take 1 (v := ?_) rfl (by kernel_rfl) (by kernel_rfl) (by kernel_rfl) (by kernel_rfl) (fun _ _ _ h => h) rfl ?_ S0 ?_
              rotate_left
              · intro W hW
                go_simp
                (try with_reducible rfl)
              simp only [Act.put, List.setIfInBounds_toArray, List.set_cons_zero, List.set_cons_succ]
              refine fin_take 2 (v := ?_) rfl (by kernel_rfl) (by kernel_rfl) (by kernel_rfl) (by kernel_rfl) (fun _ _ _ h => h) rfl ?_ S0 ?_
              rotate_left
              · intro W hW
                go_simp
                (try with_reducible rfl)
              simp only [Act.put, List.setIfInBounds_toArray, List.set_cons_zero, List.set_cons_succ]
              refine fin_take 3 (v := ?_) rfl (by kernel_rfl) (by kernel_rfl) (by kernel_rfl) (by kernel_rfl) (fun _ _ _ h => h) rfl ?_ S0 ?_
              rotate_left
              · intro W hW
                go_simp
                (try with_reducible rfl)
              simp only [Act.put, List.setIfInBounds_toArray, List.set_cons_zero, List.set_cons_succ]
              refine fin_take 4 (v := ?_) rfl (by kernel_rfl) (by kernel_rfl) (by kernel_rfl) (by kernel_rfl) (fun _ _ _ h => h) rfl ?_ S0 ?_
              rotate_left
              · intro W hW
                go_simp
                (try with_reducible rfl)
              simp only [Act.put, List.setIfInBounds_toArray, List.set_cons_zero, List.set_cons_succ]
              refine fin_takeG 5 (v := ?_) rfl (by kernel_rfl) (by kernel_rfl) (by kernel_rfl) (by kernel_rfl) (fun _ _ _ h => h) (by rfl) ?_ S0 ?_
              rotate_left
              · intro W hW
                go_simp
                (try with_reducible rfl)
              simp only [Act.put, List.setIfInBounds_toArray, List.set_cons_zero, List.set_cons_succ]
              refine fin_takeG 6 (v := ?_) rfl (by kernel_rfl) (by kernel_rfl) (by kernel_rfl) (by kernel_rfl) (fun _ _ _ h => h) (by rfl) ?_ S0 ?_
              rotate_left
              · intro W hW
                go_simp
                (try with_reducible rfl)
              simp only [Act.put, List.setIfInBounds_toArray, List.set_cons_zero, List.set_cons_succ]
              refine fin_takeG 7 (v := ?_) rfl (by kernel_rfl) (by kernel_rfl) (by kernel_rfl) (by kernel_rfl) (fun _ _ _ h => h) (by rfl) ?_ S0 ?_
              rotate_left
              · intro W hW
                go_simp
                (try with_reducible rfl)
              simp only [Act.put, List.setIfInBounds_toArray, List.set_cons_zero, List.set_cons_succ]
              refine fin_takeG 8 (v := .agg (finA y)) rfl (by kernel_rfl) (by kernel_rfl) (by kernel_rfl) (by kernel_rfl) (fun _ _ _ h => h) (by rfl) (fun W hW => exec_fld rfl rfl (RY.out W hW)) S0 ?_
              simp only [Act.put, List.setIfInBounds_toArray, List.set_cons_zero, List.set_cons_succ]
              refine fin_takeG 9 (v := ?_) rfl (by kernel_rfl) (by kernel_rfl) (by kernel_rfl) (by kernel_rfl) (fun _ _ _ h => h) (by rfl) ?_ S0 ?_
              rotate_left
              · intro W hW
                go_simp
                (try with_reducible rfl)
              simp only [Act.put, List.setIfInBounds_toArray, List.set_cons_zero, List.set_cons_succ]
              refine fin_takeG 10 (v := ?_) rfl (by kernel_rfl) (by kernel_rfl) (by kernel_rfl) (by kernel_rfl) (fun _ _ _ h => h) (by rfl) ?_ S0 ?_
              rotate_left
              · intro W hW
                go_simp
                (try with_reducible rfl)
              simp only [Act.put, List.setIfInBounds_toArray, List.set_cons_zero, List.set_cons_succ]
              refine fin_takeG 11 (v := ?_) rfl (by kernel_rfl) (by kernel_rfl) (by kernel_rfl) (by kernel_rfl) (fun _ _ _ h => h) (by rfl) ?_ S0 ?_
              rotate_left
              · intro W hW
                go_simp
                (try with_reducible rfl)
              simp only [Act.put, List.setIfInBounds_toArray, List.set_cons_zero, List.set_cons_succ]
              refine fin_takeG 12 (v := .agg (finA f)) rfl (by kernel_rfl) (by kernel_rfl) (by kernel_rfl) (by kernel_rfl) (fun _ _ _ h => h) (by rfl) (fun W hW => exec_fld rfl rfl (RF.out W hW)) S0 ?_
              simp only [Act.put, List.setIfInBounds_toArray, List.set_cons_zero, List.set_cons_succ]
              refine fin_oneG 13 rfl (by rfl) (by kernel_rfl) (fun K hK => ?_)
              go_simp
              refine (hless _).mono ?_
              rintro _ w3 ⟨rfl, k3⟩
              have S4 : On wo w3 := S0.trans k3
              refine hK.out _ _ (fun _ => S4) ?_
              clear hK
              refine fin_take 14 (v := ?_) rfl (by kernel_rfl) (by kernel_rfl) (by kernel_rfl) (by kernel_rfl) (fun _ _ _ h => h) rfl ?_ S4 ?_
              rotate_left
              · intro W hW
                go_simp
                (try with_reducible rfl)
              simp only [Act.put, List.setIfInBounds_toArray, List.set_cons_zero, List.set_cons_succ]
              refine fin_done (by kernel_rfl) (NoPanic.normal ?_)
              go_wp2
              have S0 : On wo w3.drew := S4.drew
              refine region_fin (fun W => On wo W) 99 15 (by kernel_rfl) rfl ?_
              refine fin_take 0 (v := ?_) rfl (by kernel_rfl) (by kernel_rfl) (by kernel_rfl) (by kernel_rfl) (fun _ _ _ h => h) rfl ?_ S0 ?_
              rotate_left
              · intro W hW
                go_simp
                (try with_reducible rfl)
              simp only [Act.put, List.setIfInBounds_toArray, List.set_cons_zero, List.set_cons_succ]
              refine fin_take 1 (v := ?_) rfl (by kernel_rfl) (by kernel_rfl) (by kernel_rfl) (by kernel_rfl) (fun _ _ _ h => h) rfl ?_ S0 ?_
              rotate_left
              · intro W hW
                go_simp
                (try with_reducible rfl)
              simp only [Act.put, List.setIfInBounds_toArray, List.set_cons_zero, List.set_cons_succ]
              refine fin_take 2 (v := ?_) rfl (by kernel_rfl) (by kernel_rfl) (by kernel_rfl) (by kernel_rfl) (fun _ _ _ h => h) rfl ?_ S0 ?_
              rotate_left
              · intro W hW
                go_simp
                (try with_reducible rfl)
              simp only [Act.put, List.setIfInBounds_toArray, List.set_cons_zero, List.set_cons_succ]
              refine fin_take 3 (v := ?_) rfl (by kernel_rfl) (by kernel_rfl) (by kernel_rfl) (by kernel_rfl) (fun _ _ _ h => h) rfl ?_ S0 ?_
              rotate_left
              · intro W hW
                go_simp
                (try with_reducible rfl)
              simp only [Act.put, List.setIfInBounds_toArray, List.set_cons_zero, List.set_cons_succ]
              refine fin_take 4 (v := ?_) rfl (by kernel_rfl) (by kernel_rfl) (by kernel_rfl) (by kernel_rfl) (fun _ _ _ h => h) rfl ?_ S0 ?_
              rotate_left
              · intro W hW
                go_simp
                (try with_reducible rfl)
              simp only [Act.put, List.setIfInBounds_toArray, List.set_cons_zero, List.set_cons_succ]
              refine fin_takeG 5 (v := ?_) rfl (by kernel_rfl) (by kernel_rfl) (by kernel_rfl) (by kernel_rfl) (fun _ _ _ h => h) (by rfl) ?_ S0 ?_
              rotate_left
              · intro W hW
                go_simp
                (try with_reducible rfl)
              simp only [Act.put, List.setIfInBounds_toArray, List.set_cons_zero, List.set_cons_succ]
              refine fin_takeG 6 (v := ?_) rfl (by kernel_rfl) (by kernel_rfl) (by kernel_rfl) (by kernel_rfl) (fun _ _ _ h => h) (by rfl) ?_ S0 ?_
              rotate_left
              · intro W hW
                go_simp
                (try with_reducible rfl)
              simp only [Act.put, List.setIfInBounds_toArray, List.set_cons_zero, List.set_cons_succ]
              refine fin_takeG 7 (v := ?_) rfl (by kernel_rfl) (by kernel_rfl) (by kernel_rfl) (by kernel_rfl) (fun _ _ _ h => h) (by rfl) ?_ S0 ?_
              rotate_left
              · intro W hW
                go_simp
                (try with_reducible rfl)
              simp only [Act.put, List.setIfInBounds_toArray, List.set_cons_zero, List.set_cons_succ]
              refine fin_takeG 8 (v := .agg (finA y)) rfl (by kernel_rfl) (by kernel_rfl) (by kernel_rfl) (by kernel_rfl) (fun _ _ _ h => h) (by rfl) (fun W hW => exec_fld rfl rfl (RY.out W hW)) S0 ?_
              simp only [Act.put, List.setIfInBounds_toArray, List.set_cons_zero, List.set_cons_succ]
              refine fin_takeG 9 (v := ?_) rfl (by kernel_rfl) (by kernel_rfl) (by kernel_rfl) (by kernel_rfl) (fun _ _ _ h => h) (by rfl) ?_ S0 ?_
              rotate_left
              · intro W hW
                go_simp
                (try with_reducible rfl)
              simp only [Act.put, List.setIfInBounds_toArray, List.set_cons_zero, List.set_cons_succ]
              refine fin_takeG 10 (v := ?_) rfl (by kernel_rfl) (by kernel_rfl) (by kernel_rfl) (by kernel_rfl) (fun _ _ _ h => h) (by rfl) ?_ S0 ?_
              rotate_left
              · intro W hW
                go_simp
                (try with_reducible rfl)
              simp only [Act.put, List.setIfInBounds_toArray, List.set_cons_zero, List.set_cons_succ]
              refine fin_takeG 11 (v := ?_) rfl (by kernel_rfl) (by kernel_rfl) (by kernel_rfl) (by kernel_rfl) (fun _ _ _ h => h) (by rfl) ?_ S0 ?_
              rotate_left
              · intro W hW
                go_simp
                (try with_reducible rfl)
              simp only [Act.put, List.setIfInBounds_toArray, List.set_cons_zero, List.set_cons_succ]
              refine fin_takeG 12 (v := .agg (finA f)) rfl (by kernel_rfl) (by kernel_rfl) (by kernel_rfl) (by kernel_rfl) (fun _ _ _ h => h) (by rfl) (fun W hW => exec_fld rfl rfl (RF.out W hW)) S0 ?_
              simp only [Act.put, List.setIfInBounds_toArray, List.set_cons_zero, List.set_cons_succ]
              refine fin_takeG 13 (v := .bool (decide (y = f))) rfl (by kernel_rfl) (by kernel_rfl) (by kernel_rfl) (by kernel_rfl) (fun _ _ _ h => h) (by rfl) (fun W hW => exec_feq rfl rfl rfl W) S0 ?_
              simp only [Act.put, List.setIfInBounds_toArray, List.set_cons_zero, List.set_cons_succ]
              refine fin_take 14 (v := ?_) rfl (by kernel_rfl) (by kernel_rfl) (by kernel_rfl) (by kernel_rfl) (fun _ _ _ h => h) rfl ?_ S0 ?_
              rotate_left
              · intro W hW
                go_simp
                (try with_reducible rfl)
              simp only [Act.put, List.setIfInBounds_toArray, List.set_cons_zero, List.set_cons_succ]
              refine fin_done (by kernel_rfl) (NoPanic.normal ?_)
              rw [HDE.out]
              go_wp2
              go_roundg (A.length - (n + 1))
              case measure => omega
              case rel => exact ⟨n + 1, M, by omega, rfl, by go_num, by omega, HO.out.trans S0, own_on HN.out S0, HM, HI2⟩
            · have hde : decide (y = f) = false := decide_eq_false hey
              have HDE : Hid (decide (y = f) = false) := hde
              have hfy : finCmp f y < 0 := by
                have e1 := ord_fin.anti y f
                have e2 : ¬ finCmp y f = 0 := fun e => hey ((ord_fin.eq y f).1 e)
                omega
              have HAB : Hid (∀ z ∈ M.drop k, finCmp f z < 0) := above HM.out hy hfy
              clear hy hRY hyf hde hey hfy
              go_wp2
              refine region_fin (fun W => On wo W) 99 15 (by kernel_rfl) rfl ?_
              refine fin_take 0 (v := ?_) rfl (by kernel_rfl) (by kernel_rfl) (by kernel_rfl) (by kernel_rfl) (fun _ _ _ h => h) rfl ?_ S0 ?_
              rotate_left
              · intro W hW
                go_simp
                (try with_reducible rfl)
              simp only [Act.put, List.setIfInBounds_toArray, List.set_cons_zero, List.set_cons_succ]
              refine fin_take 1 (v := ?_) rfl (by kernel_rfl) (by kernel_rfl) (by kernel_rfl) (by kernel_rfl) (fun _ _ _ h => h) rfl ?_ S0 ?_
              rotate_left
              · intro W hW
                go_simp
                (try with_reducible rfl)
              simp only [Act.put, List.setIfInBounds_toArray, List.set_cons_zero, List.set_cons_succ]
              refine fin_take 2 (v := ?_) rfl (by kernel_rfl) (by kernel_rfl) (by kernel_rfl) (by kernel_rfl) (fun _ _ _ h => h) rfl ?_ S0 ?_
              rotate_left
              · intro W hW
                go_simp
                (try with_reducible rfl)
              simp only [Act.put, List.setIfInBounds_toArray, List.set_cons_zero, List.set_cons_succ]
              refine fin_take 3 (v := ?_) rfl (by kernel_rfl) (by kernel_rfl) (by kernel_rfl) (by kernel_rfl) (fun _ _ _ h => h) rfl ?_ S0 ?_
              rotate_left
              · intro W hW
                go_simp
                (try with_reducible rfl)
              simp only [Act.put, List.setIfInBounds_toArray, List.set_cons_zero, List.set_cons_succ]
              refine fin_take 4 (v := ?_) rfl (by kernel_rfl) (by kernel_rfl) (by kernel_rfl) (by kernel_rfl) (fun _ _ _ h => h) rfl ?_ S0 ?_
              rotate_left
              · intro W hW
                go_simp
                (try with_reducible rfl)
              simp only [Act.put, List.setIfInBounds_toArray, List.set_cons_zero, List.set_cons_succ]
              refine fin_takeG 5 (v := ?_) rfl (by kernel_rfl) (by kernel_rfl) (by kernel_rfl) (by kernel_rfl) (fun _ _ _ h => h) (by rfl) ?_ S0 ?_
              rotate_left
              · intro W hW
                go_simp
                (try with_reducible rfl)
              simp only [Act.put, List.setIfInBounds_toArray, List.set_cons_zero, List.set_cons_succ]
              refine fin_takeG 6 (v := ?_) rfl (by kernel_rfl) (by kernel_rfl) (by kernel_rfl) (by kernel_rfl) (fun _ _ _ h => h) (by rfl) ?_ S0 ?_
              rotate_left
              · intro W hW
                go_simp
                (try with_reducible rfl)
              simp only [Act.put, List.setIfInBounds_toArray, List.set_cons_zero, List.set_cons_succ]
              refine fin_takeG 7 (v := ?_) rfl (by kernel_rfl) (by kernel_rfl) (by kernel_rfl) (by kernel_rfl) (fun _ _ _ h => h) (by rfl) ?_ S0 ?_
              rotate_left
              · intro W hW
                go_simp
                (try with_reducible rfl)
              simp only [Act.put, List.setIfInBounds_toArray, List.set_cons_zero, List.set_cons_succ]
              refine fin_takeG 8 (v := .agg (finA y)) rfl (by kernel_rfl) (by kernel_rfl) (by kernel_rfl) (by kernel_rfl) (fun _ _ _ h => h) (by rfl) (fun W hW => exec_fld rfl rfl (RY.out W hW)) S0 ?_
              simp only [Act.put, List.setIfInBounds_toArray, List.set_cons_zero, List.set_cons_succ]
              refine fin_takeG 9 (v := ?_) rfl (by kernel_rfl) (by kernel_rfl) (by kernel_rfl) (by kernel_rfl) (fun _ _ _ h => h) (by rfl) ?_ S0 ?_
              rotate_left
              · intro W hW
                go_simp
                (try with_reducible rfl)
              simp only [Act.put, List.setIfInBounds_toArray, List.set_cons_zero, List.set_cons_succ]
              refine fin_takeG 10 (v := ?_) rfl (by kernel_rfl) (by kernel_rfl) (by kernel_rfl) (by kernel_rfl) (fun _ _ _ h => h) (by rfl) ?_ S0 ?_
              rotate_left
              · intro W hW
                go_simp
                (try with_reducible rfl)
              simp only [Act.put, List.setIfInBounds_toArray, List.set_cons_zero, List.set_cons_succ]
              refine fin_takeG 11 (v := ?_) rfl (by kernel_rfl) (by kernel_rfl) (by kernel_rfl) (by kernel_rfl) (fun _ _ _ h => h) (by rfl) ?_ S0 ?_
              rotate_left
              · intro W hW
                go_simp
                (try with_reducible rfl)
              simp only [Act.put, List.setIfInBounds_toArray, List.set_cons_zero, List.set_cons_succ]
              refine fin_takeG 12 (v := .agg (finA f)) rfl (by kernel_rfl) (by kernel_rfl) (by kernel_rfl) (by kernel_rfl) (fun _ _ _ h => h) (by rfl) (fun W hW => exec_fld rfl rfl (RF.out W hW)) S0 ?_
              simp only [Act.put, List.setIfInBounds_toArray, List.set_cons_zero, List.set_cons_succ]
              refine fin_oneG 13 rfl (by rfl) (by kernel_rfl) (fun K hK => ?_)
              go_simp
              refine (hless _).mono ?_
              rintro _ w3 ⟨rfl, k3⟩
              have S4 : On wo w3 := S0.trans k3
              refine hK.out _ _ (fun _ => S4) ?_
              clear hK
              refine fin_take 14 (v := ?_) rfl (by kernel_rfl) (by kernel_rfl) (by kernel_rfl) (by kernel_rfl) (fun _ _ _ h => h) rfl ?_ S4 ?_
              rotate_left
              · intro W hW
                go_simp
                (try with_reducible rfl)
              simp only [Act.put, List.setIfInBounds_toArray, List.set_cons_zero, List.set_cons_succ]
              refine fin_done (by kernel_rfl) (NoPanic.normal ?_)
              go_wp2
              have S0 : On wo w3.drew := S4.drew
              clear S0
              have S0 : On wo w3.drew := S4.drew
              refine region_fin (fun W => On wo W) 99 15 (by kernel_rfl) rfl ?_
              refine fin_take 0 (v := ?_) rfl (by kernel_rfl) (by kernel_rfl) (by kernel_rfl) (by kernel_rfl) (fun _ _ _ h => h) rfl ?_ S0 ?_
              rotate_left
              · intro W hW
                go_simp
                (try with_reducible rfl)
              simp only [Act.put, List.setIfInBounds_toArray, List.set_cons_zero, List.set_cons_succ]
              refine fin_take 1 (v := ?_) rfl (by kernel_rfl) (by kernel_rfl) (by kernel_rfl) (by kernel_rfl) (fun _ _ _ h => h) rfl ?_ S0 ?_
              rotate_left
              · intro W hW
                go_simp
                (try with_reducible rfl)
              simp only [Act.put, List.setIfInBounds_toArray, List.set_cons_zero, List.set_cons_succ]
              refine fin_take 2 (v := ?_) rfl (by kernel_rfl) (by kernel_rfl) (by kernel_rfl) (by kernel_rfl) (fun _ _ _ h => h) rfl ?_ S0 ?_
              rotate_left
              · intro W hW
                go_simp
                (try with_reducible rfl)
              simp only [Act.put, List.setIfInBounds_toArray, List.set_cons_zero, List.set_cons_succ]
              refine fin_take 3 (v := ?_) rfl (by kernel_rfl) (by kernel_rfl) (by kernel_rfl) (by kernel_rfl) (fun _ _ _ h => h) rfl ?_ S0 ?_
              rotate_left
              · intro W hW
                go_simp
                (try with_reducible rfl)
              simp only [Act.put, List.setIfInBounds_toArray, List.set_cons_zero, List.set_cons_succ]
              refine fin_take 4 (v := ?_) rfl (by kernel_rfl) (by kernel_rfl) (by kernel_rfl) (by kernel_rfl) (fun _ _ _ h => h) rfl ?_ S0 ?_
              rotate_left
              · intro W hW
                go_simp
                (try with_reducible rfl)
              simp only [Act.put, List.setIfInBounds_toArray, List.set_cons_zero, List.set_cons_succ]
              refine fin_takeG 5 (v := ?_) rfl (by kernel_rfl) (by kernel_rfl) (by kernel_rfl) (by kernel_rfl) (fun _ _ _ h => h) (by rfl) ?_ S0 ?_
              rotate_left
              · intro W hW
                go_simp
                (try with_reducible rfl)
              simp only [Act.put, List.setIfInBounds_toArray, List.set_cons_zero, List.set_cons_succ]
              refine fin_takeG 6 (v := ?_) rfl (by kernel_rfl) (by kernel_rfl) (by kernel_rfl) (by kernel_rfl) (fun _ _ _ h => h) (by rfl) ?_ S0 ?_
              rotate_left
              · intro W hW
                go_simp
                (try with_reducible rfl)
              simp only [Act.put, List.setIfInBounds_toArray, List.set_cons_zero, List.set_cons_succ]
              refine fin_takeG 7 (v := ?_) rfl (by kernel_rfl) (by kernel_rfl) (by kernel_rfl) (by kernel_rfl) (fun _ _ _ h => h) (by rfl) ?_ S0 ?_
              rotate_left
              · intro W hW
                go_simp
                (try with_reducible rfl)
              simp only [Act.put, List.setIfInBounds_toArray, List.set_cons_zero, List.set_cons_succ]
              refine fin_takeG 8 (v := .agg (finA y)) rfl (by kernel_rfl) (by kernel_rfl) (by kernel_rfl) (by kernel_rfl) (fun _ _ _ h => h) (by rfl) (fun W hW => exec_fld rfl rfl (RY.out W hW)) S0 ?_
              simp only [Act.put, List.setIfInBounds_toArray, List.set_cons_zero, List.set_cons_succ]
              refine fin_takeG 9 (v := ?_) rfl (by kernel_rfl) (by kernel_rfl) (by kernel_rfl) (by kernel_rfl) (fun _ _ _ h => h) (by rfl) ?_ S0 ?_
              rotate_left
              · intro W hW
                go_simp
                (try with_reducible rfl)
              simp only [Act.put, List.setIfInBounds_toArray, List.set_cons_zero, List.set_cons_succ]
              refine fin_takeG 10 (v := ?_) rfl (by kernel_rfl) (by kernel_rfl) (by kernel_rfl) (by kernel_rfl) (fun _ _ _ h => h) (by rfl) ?_ S0 ?_
              rotate_left
              · intro W hW
                go_simp
                (try with_reducible rfl)
              simp only [Act.put, List.setIfInBounds_toArray, List.set_cons_zero, List.set_cons_succ]
              refine fin_takeG 11 (v := ?_) rfl (by kernel_rfl) (by kernel_rfl) (by kernel_rfl) (by kernel_rfl) (fun _ _ _ h => h) (by rfl) ?_ S0 ?_
              rotate_left
              · intro W hW
                go_simp
                (try with_reducible rfl)
              simp only [Act.put, List.setIfInBounds_toArray, List.set_cons_zero, List.set_cons_succ]
              refine fin_takeG 12 (v := .agg (finA f)) rfl (by kernel_rfl) (by kernel_rfl) (by kernel_rfl) (by kernel_rfl) (fun _ _ _ h => h) (by rfl) (fun W hW => exec_fld rfl rfl (RF.out W hW)) S0 ?_
              simp only [Act.put, List.setIfInBounds_toArray, List.set_cons_zero, List.set_cons_succ]
              refine fin_takeG 13 (v := .bool (decide (y = f))) rfl (by kernel_rfl) (by kernel_rfl) (by kernel_rfl) (by kernel_rfl) (fun _ _ _ h => h) (by rfl) (fun W hW => exec_feq rfl rfl rfl W) S0 ?_
              simp only [Act.put, List.setIfInBounds_toArray, List.set_cons_zero, List.set_cons_succ]
              refine fin_take 14 (v := ?_) rfl (by kernel_rfl) (by kernel_rfl) (by kernel_rfl) (by kernel_rfl) (fun _ _ _ h => h) rfl ?_ S0 ?_
              rotate_left
              · intro W hW
                go_simp
                (try with_reducible rfl)
              simp only [Act.put, List.setIfInBounds_toArray, List.set_cons_zero, List.set_cons_succ]
              refine fin_done (by kernel_rfl) (NoPanic.normal ?_)
              rw [HDE.out]
              go_wp2
              obtain ⟨wr, hwr⟩ : ∃ wr, wr = w3.drew := ⟨_, rfl⟩
              rw [← hwr] at S0 ⊢
              clear hwr
              have S0' := S0
              clear S0
              have S0 : On wo wr.drew := S0'.drew
              have HT1 : Hid (Rd finC 20 wr.drew (.slice (some ⟨g2, o2, none⟩) k c3) (M.take k)) := rd_takeF (HRM.out.on S0) (by omega)
              have HT2 : Hid (Rd finC 20 wr.drew (.slice a4 dl c4) (M.drop k)) := by
                show Rd _ _ _ _ _
                rw [HA4.out, HC4.out, HDL.out]
                exact rd_dropF (HRM.out.on S0) (by omega)
              have HI2 : Hid (∀ x, x ∈ M.take k ++ [f] ++ M.drop k ↔ x ∈ A.take (n + 1)) := fun x => by
                have e := HI.out x
                rw [← List.take_append_drop k M, List.mem_append] at e
                rw [HT.out, List.mem_append, List.mem_append, List.mem_append, ← e]
                constructor
                · rintro ((h | h) | h)
                  · exact Or.inl (Or.inl h)
                  · exact Or.inr h
                  · exact Or.inl (Or.inr h)
                · rintro ((h | h) | h)
                  · exact Or.inl (Or.inl h)
                  · exact Or.inr h
                  · exact Or.inl (Or.inr h)
              have HRI : Hid (Ris (M.take k ++ [f] ++ M.drop k)) := ris_mid HM.out HY.out HAB.out
              have HLN : Hid ((M.take k ++ [f] ++ M.drop k).length = M.length + 1) := by show _ = _; rw [List.length_append, List.length_append, List.length_take, List.length_drop, List.length_singleton]; omega
              have HZ : Hid (w.heap.size ≤ wr.heap.size) := (HO.out.trans S0').size
              clear HA4 HC4 HDL HY HAB HI HM HN
              refine region_fz (fun W => On wo W) [] 16 (by kernel_rfl) rfl ?_
              refine fz_take 1 (v := ?_) rfl (by kernel_rfl) (by kernel_rfl) (by kernel_rfl) (by kernel_rfl) (fun _ _ _ h => h) rfl ?_ S0 ?_
              rotate_left
              · intro W hW
                go_simp
                (try with_reducible rfl)
              simp only [Act.put, List.setIfInBounds_toArray, List.set_cons_zero, List.set_cons_succ]
              refine fz_take 2 (v := ?_) rfl (by kernel_rfl) (by kernel_rfl) (by kernel_rfl) (by kernel_rfl) (fun _ _ _ h => h) rfl ?_ S0 ?_
              rotate_left
              · intro W hW
                go_simp
                (try with_reducible rfl)
              simp only [Act.put, List.setIfInBounds_toArray, List.set_cons_zero, List.set_cons_succ]
              refine fz_take 3 (v := .slice (some ⟨g2, o2, none⟩) k c3) rfl (by kernel_rfl) (by kernel_rfl) (by kernel_rfl) (by kernel_rfl) (fun _ _ _ h => h) rfl (fun W hW => exec_sl rfl (HSL1.out W)) S0 ?_
              simp only [Act.put, List.setIfInBounds_toArray, List.set_cons_zero, List.set_cons_succ]
              refine fz_take 5 (v := ?_) rfl (by kernel_rfl) (by kernel_rfl) (by kernel_rfl) (by kernel_rfl) (fun _ _ _ h => h) rfl ?_ S0 ?_
              rotate_left
              · intro W hW
                go_simp
                (try with_reducible rfl)
              simp only [Act.put, List.setIfInBounds_toArray, List.set_cons_zero, List.set_cons_succ]
              refine fz_take 6 (v := ?_) rfl (by kernel_rfl) (by kernel_rfl) (by kernel_rfl) (by kernel_rfl) (fun _ _ _ h => h) rfl ?_ S0 ?_
              rotate_left
              · intro W hW
                go_simp
                (try with_reducible rfl)
              simp only [Act.put, List.setIfInBounds_toArray, List.set_cons_zero, List.set_cons_succ]
              refine fz_take 7 (v := ?_) rfl (by kernel_rfl) (by kernel_rfl) (by kernel_rfl) (by kernel_rfl) (fun _ _ _ h => h) rfl ?_ S0 ?_
              rotate_left
              · intro W hW
                go_simp
                (try with_reducible rfl)
              simp only [Act.put, List.setIfInBounds_toArray, List.set_cons_zero, List.set_cons_succ]
              refine fz_take 8 (v := .agg (finA f)) rfl (by kernel_rfl) (by kernel_rfl) (by kernel_rfl) (by kernel_rfl) (fun _ _ _ h => h) rfl (fun W hW => exec_fld rfl rfl (RF.out W hW)) S0 ?_
              simp only [Act.put, List.setIfInBounds_toArray, List.set_cons_zero, List.set_cons_succ]
              refine fz_take 11 (v := ?_) rfl (by kernel_rfl) (by kernel_rfl) (by kernel_rfl) (by kernel_rfl) (fun _ _ _ h => h) rfl ?_ S0 ?_
              rotate_left
              · intro W hW
                go_simp
                (try with_reducible rfl)
              simp only [Act.put, List.setIfInBounds_toArray, List.set_cons_zero, List.set_cons_succ]
              refine fz_take 12 (v := ?_) rfl (by kernel_rfl) (by kernel_rfl) (by kernel_rfl) (by kernel_rfl) (fun _ _ _ h => h) rfl ?_ S0 ?_
              rotate_left
              · intro W hW
                go_simp
                (try with_reducible rfl)
              simp only [Act.put, List.setIfInBounds_toArray, List.set_cons_zero, List.set_cons_succ]
              refine fz_take 13 (v := .slice a4 dl c4) rfl (by kernel_rfl) (by kernel_rfl) (by kernel_rfl) (by kernel_rfl) (fun _ _ _ h => h) rfl (fun W hW => exec_sl rfl (HSL2.out W)) S0 ?_
              simp only [Act.put, List.setIfInBounds_toArray, List.set_cons_zero, List.set_cons_succ]
              refine fz_grow [(0, 44, none), (4, 48, none), (9, 53, none)] (fun i v W => (i = 0 → ∃ g, v = .slice (some ⟨g, 0, none⟩) 0 0 ∧ World.ownsRow W wr.heap.size 26 20 v 0 []) ∧ (i = 4 → World.ownsRow W wr.heap.size 26 20 v (M.take k).length ((M.take k).flatMap finC)) ∧ (i = 9 → ∃ g, v = .slice (some ⟨g, 0, none⟩) 1 1 ∧ Bk W g (finA f))) #[true, true, true, true, true, true, true, true, true, true, false, true, true, true, false, false] 3 3 (by simp) (by simp) ?_ rfl (fun _ _ h k => h.trans k) S0 ?_ (by kernel_rfl) (by kernel_rfl) ?_ ?_
              · intro x hx
                simp only [List.mem_cons, List.not_mem_nil, or_false] at hx
                rcases hx with rfl | rfl | rfl <;> rfl
              · intro i v w w' h k
                exact ⟨fun e => (fun h => by obtain ⟨g, h1, h2⟩ := h; exact ⟨g, h1, own_on h2 k⟩) (h.1 e), fun e => (fun h => own_on h k) (h.2.1 e), fun e => (fun h => by obtain ⟨g, h1, h2⟩ := h; exact ⟨g, h1, h2.on k⟩) (h.2.2 e)⟩
              · intro i d c hi
                simp only [List.mem_cons, Prod.mk.injEq, List.not_mem_nil, or_false] at hi
                rcases hi with ⟨rfl, rfl, rfl⟩ | ⟨rfl, rfl, rfl⟩ | ⟨rfl, rfl, rfl⟩
                · refine ⟨_, rfl, rfl, fun p W' l' K hr hm hS hK => ?_⟩
                  have kW := hm.on
                  clear hm hr
                  simp only [putsA, putsD, List.foldl_cons, List.foldl_nil, Act.put, List.setIfInBounds_toArray, List.set_cons_zero, List.set_cons_succ] at hK ⊢
                  go_simp
                  exact hK _ _ ((On.refl W').alloc _) ⟨fun _ => ⟨_, rfl, own_empty W' _ 20 _ (show wr.drew.heap.size ≤ _ from kW.size)⟩, fun e => absurd e (by decide), fun e => absurd e (by decide)⟩
                · refine ⟨_, rfl, rfl, fun p W' l' K hr hm hS hK => ?_⟩
                  obtain ⟨u0, hu0, f0⟩ := hm.get (x := (0, 44, none)) (by simp) (ready_dep hr rfl (e := ⟨0, .data⟩) (by simp) rfl)
                  have g0 := f0.1 rfl
                  have kW := hm.on
                  clear hm hr
                  simp only [putsA, putsD, List.foldl_cons, List.foldl_nil, hu0, Option.getD_some, Act.put, List.setIfInBounds_toArray, List.set_cons_zero, List.set_cons_succ] at hK ⊢
                  obtain ⟨g, rfl, hE⟩ := g0
                  refine wp_append_new elF finC_len _ _ rfl rfl rfl hE (HT1.out.on kW) HLT.out (by decide) (show wr.drew.heap.size ≤ _ from kW.size) ?_
                  intro v' w'' h1 k1
                  exact hK v' w'' k1 ⟨fun e => absurd e (by decide), fun _ => h1, fun e => absurd e (by decide)⟩
                · refine ⟨_, rfl, rfl, fun p W' l' K hr hm hS hK => ?_⟩
                  have kW := hm.on
                  clear hm hr
                  simp only [putsA, putsD, List.foldl_cons, List.foldl_nil, Act.put, List.setIfInBounds_toArray, List.set_cons_zero, List.set_cons_succ] at hK ⊢
                  refine wp_fslice rfl rfl ?_
                  exact hK _ _ ((On.refl W').alloc _) ⟨fun e => absurd e (by decide), fun e => absurd e (by decide), fun _ => ⟨_, rfl, Bk.new W' _ _⟩⟩
              intro p WE hm hSE
              obtain ⟨u0, hu0, f0⟩ := hm.get (x := (0, 44, none)) (by simp) rfl
              have g0 := f0.1 rfl
              obtain ⟨u4, hu4, f4⟩ := hm.get (x := (4, 48, none)) (by simp) rfl
              have g4 := f4.2.1 rfl
              obtain ⟨u9, hu9, f9⟩ := hm.get (x := (9, 53, none)) (by simp) rfl
              have g9 := f9.2.2 rfl
              have kM := hm.on
              simp only [putsA, putsD, List.foldl_cons, List.foldl_nil, hu0, hu4, hu9, Option.getD_some, Act.put, List.setIfInBounds_toArray, List.set_cons_zero, List.set_cons_succ]
              clear hm hu0 f0 hu4 f4 hu9 f9
              obtain ⟨g9, rfl, B9⟩ := g9
              refine fz_one 10 rfl rfl (by kernel_rfl) (fun K hK => ?_)
              refine wp_append_rdG elF finC_len _ _ rfl rfl rfl (flat_oneC finC_one _) g4 (rd_one B9) HL1.out (by decide) (show wr.drew.heap.size ≤ _ from kM.size) ?_
              intro v10 w10 h10 g10
              have k10 : On wr.drew w10 := kM.grown g10 (fun q hq => (g4.lt q hq).1)
              refine hK.out _ _ (fun _ => S0.trans k10) ?_
              clear hK
              refine fz_one 14 rfl rfl (by kernel_rfl) (fun K hK => ?_)
              refine wp_append_rdG elF finC_len _ _ rfl rfl rfl (flat_oneC finC_one _) h10 (HT2.out.on k10) HL2.out (by decide) (show wr.drew.heap.size ≤ _ from k10.size) ?_
              intro v14 w14 h14 g14
              have k14 : On wr.drew w14 := k10.grown g14 (fun q hq => (h10.lt q hq).1)
              refine hK.out _ _ (fun _ => S0.trans k14) ?_
              clear hK
              refine fz_take 15 (v := ?_) rfl (by kernel_rfl) (by kernel_rfl) (by kernel_rfl) (by kernel_rfl) (fun _ _ _ h => h) rfl ?_ (S0.trans k14) ?_
              rotate_left
              · intro W hW
                go_simp
                (try with_reducible rfl)
              simp only [Act.put, List.setIfInBounds_toArray, List.set_cons_zero, List.set_cons_succ]
              refine fz_done (by kernel_rfl) (NoPanic.normal ?_)
              go_wp2
              go_roundg (A.length - (n + 1))
              case measure => omega
              case rel => exact ⟨n + 1, M.take k ++ [f] ++ M.drop k, by omega, rfl, by go_num, by rw [HLN.out]; omega, (HO.out.trans S0).trans k14, own_base h14 HZ.out, HRI, HI2⟩
        · have HAB : Hid (∀ z ∈ M.drop k, finCmp f z < 0) := fun z hz => by rw [List.drop_eq_nil_of_le hgek] at hz; cases hz
          have dk : decide (k < M.length) = false := decide_eq_false (by omega)
          go_wp2
          refine region_fin (fun W => On wo W) 99 15 (by kernel_rfl) rfl ?_
          refine fin_take 0 (v := ?_) rfl (by kernel_rfl) (by kernel_rfl) (by kernel_rfl) (by kernel_rfl) (fun _ _ _ h => h) rfl ?_ S0 ?_
          rotate_left
          · intro W hW
            go_simp
            (try with_reducible rfl)
          simp only [Act.put, List.setIfInBounds_toArray, List.set_cons_zero, List.set_cons_succ]
          refine fin_take 1 (v := ?_) rfl (by kernel_rfl) (by kernel_rfl) (by kernel_rfl) (by kernel_rfl) (fun _ _ _ h => h) rfl ?_ S0 ?_
          rotate_left
          · intro W hW
            go_simp
            (try with_reducible rfl)
          simp only [Act.put, List.setIfInBounds_toArray, List.set_cons_zero, List.set_cons_succ]
          refine fin_take 2 (v := ?_) rfl (by kernel_rfl) (by kernel_rfl) (by kernel_rfl) (by kernel_rfl) (fun _ _ _ h => h) rfl ?_ S0 ?_
          rotate_left
          · intro W hW
            go_simp
            (try with_reducible rfl)
          simp only [Act.put, List.setIfInBounds_toArray, List.set_cons_zero, List.set_cons_succ]
          refine fin_take 3 (v := ?_) rfl (by kernel_rfl) (by kernel_rfl) (by kernel_rfl) (by kernel_rfl) (fun _ _ _ h => h) rfl ?_ S0 ?_
          rotate_left
          · intro W hW
            go_simp
            (try with_reducible rfl)
          simp only [Act.put, List.setIfInBounds_toArray, List.set_cons_zero, List.set_cons_succ]
          refine fin_take 4 (v := ?_) rfl (by kernel_rfl) (by kernel_rfl) (by kernel_rfl) (by kernel_rfl) (fun _ _ _ h => h) rfl ?_ S0 ?_
          rotate_left
          · intro W hW
            go_simp
            (try with_reducible rfl)
          simp only [Act.put, List.setIfInBounds_toArray, List.set_cons_zero, List.set_cons_succ]
          refine fin_takeN 5 rfl (by kernel_rfl) (by kernel_rfl) (by kernel_rfl) (by kernel_rfl) (fun _ _ _ h => h) (by rfl) S0 ?_
          simp only [Act.put, List.setIfInBounds_toArray, List.set_cons_zero, List.set_cons_succ]
          refine fin_takeN 6 rfl (by kernel_rfl) (by kernel_rfl) (by kernel_rfl) (by kernel_rfl) (fun _ _ _ h => h) (by rfl) S0 ?_
          simp only [Act.put, List.setIfInBounds_toArray, List.set_cons_zero, List.set_cons_succ]
          refine fin_takeN 7 rfl (by kernel_rfl) (by kernel_rfl) (by kernel_rfl) (by kernel_rfl) (fun _ _ _ h => h) (by rfl) S0 ?_
          simp only [Act.put, List.setIfInBounds_toArray, List.set_cons_zero, List.set_cons_succ]
          refine fin_takeN 8 rfl (by kernel_rfl) (by kernel_rfl) (by kernel_rfl) (by kernel_rfl) (fun _ _ _ h => h) (by rfl) S0 ?_
          simp only [Act.put, List.setIfInBounds_toArray, List.set_cons_zero, List.set_cons_succ]
          refine fin_takeN 9 rfl (by kernel_rfl) (by kernel_rfl) (by kernel_rfl) (by kernel_rfl) (fun _ _ _ h => h) (by rfl) S0 ?_
          simp only [Act.put, List.setIfInBounds_toArray, List.set_cons_zero, List.set_cons_succ]
          refine fin_takeN 10 rfl (by kernel_rfl) (by kernel_rfl) (by kernel_rfl) (by kernel_rfl) (fun _ _ _ h => h) (by rfl) S0 ?_
          simp only [Act.put, List.setIfInBounds_toArray, List.set_cons_zero, List.set_cons_succ]
          refine fin_takeN 11 rfl (by kernel_rfl) (by kernel_rfl) (by kernel_rfl) (by kernel_rfl) (fun _ _ _ h => h) (by rfl) S0 ?_
          simp only [Act.put, List.setIfInBounds_toArray, List.set_cons_zero, List.set_cons_succ]
          refine fin_takeN 12 rfl (by kernel_rfl) (by kernel_rfl) (by kernel_rfl) (by kernel_rfl) (fun _ _ _ h => h) (by rfl) S0 ?_
          simp only [Act.put, List.setIfInBounds_toArray, List.set_cons_zero, List.set_cons_succ]
          refine fin_takeN 13 rfl (by kernel_rfl) (by kernel_rfl) (by kernel_rfl) (by kernel_rfl) (fun _ _ _ h => h) (by rfl) S0 ?_
          simp only [Act.put, List.setIfInBounds_toArray, List.set_cons_zero, List.set_cons_succ]
          refine fin_take 14 (v := ?_) rfl (by kernel_rfl) (by kernel_rfl) (by kernel_rfl) (by kernel_rfl) (fun _ _ _ h => h) rfl ?_ S0 ?_
          rotate_left
          · intro W hW
            go_simp
            (try with_reducible rfl)
          simp only [Act.put, List.setIfInBounds_toArray, List.set_cons_zero, List.set_cons_succ]
          refine fin_done (by kernel_rfl) (NoPanic.normal ?_)
          go_wp2
          obtain ⟨wq, hwq⟩ : ∃ wq, wq = wr.drew := ⟨_, rfl⟩
          rw [← hwq] at S0 ⊢
          clear hwq
          have S0' := S0
          clear S0
          have S0 : On wo wq.drew := S0'.drew
          refine region_fin (fun W => On wo W) 99 15 (by kernel_rfl) rfl ?_
          refine fin_take 0 (v := ?_) rfl (by kernel_rfl) (by kernel_rfl) (by kernel_rfl) (by kernel_rfl) (fun _ _ _ h => h) rfl ?_ S0 ?_
          rotate_left
          · intro W hW
            go_simp
            (try with_reducible rfl)
          simp only [Act.put, List.setIfInBounds_toArray, List.set_cons_zero, List.set_cons_succ]
          refine fin_take 1 (v := ?_) rfl (by kernel_rfl) (by kernel_rfl) (by kernel_rfl) (by kernel_rfl) (fun _ _ _ h => h) rfl ?_ S0 ?_
          rotate_left
          · intro W hW
            go_simp
            (try with_reducible rfl)
          simp only [Act.put, List.setIfInBounds_toArray, List.set_cons_zero, List.set_cons_succ]
          refine fin_take 2 (v := ?_) rfl (by kernel_rfl) (by kernel_rfl) (by kernel_rfl) (by kernel_rfl) (fun _ _ _ h => h) rfl ?_ S0 ?_
          rotate_left
          · intro W hW
            go_simp
            (try with_reducible rfl)
          simp only [Act.put, List.setIfInBounds_toArray, List.set_cons_zero, List.set_cons_succ]
          refine fin_take 3 (v := ?_) rfl (by kernel_rfl) (by kernel_rfl) (by kernel_rfl) (by kernel_rfl) (fun _ _ _ h => h) rfl ?_ S0 ?_
          rotate_left
          · intro W hW
            go_simp
            (try with_reducible rfl)
          simp only [Act.put, List.setIfInBounds_toArray, List.set_cons_zero, List.set_cons_succ]
          refine fin_take 4 (v := ?_) rfl (by kernel_rfl) (by kernel_rfl) (by kernel_rfl) (by kernel_rfl) (fun _ _ _ h => h) rfl ?_ S0 ?_
          rotate_left
          · intro W hW
            go_simp
            (try with_reducible rfl)
          simp only [Act.put, List.setIfInBounds_toArray, List.set_cons_zero, List.set_cons_succ]
          refine fin_takeN 5 rfl (by kernel_rfl) (by kernel_rfl) (by kernel_rfl) (by kernel_rfl) (fun _ _ _ h => h) (by rfl) S0 ?_
          simp only [Act.put, List.setIfInBounds_toArray, List.set_cons_zero, List.set_cons_succ]
          refine fin_takeN 6 rfl (by kernel_rfl) (by kernel_rfl) (by kernel_rfl) (by kernel_rfl) (fun _ _ _ h => h) (by rfl) S0 ?_
          simp only [Act.put, List.setIfInBounds_toArray, List.set_cons_zero, List.set_cons_succ]
          refine fin_takeN 7 rfl (by kernel_rfl) (by kernel_rfl) (by kernel_rfl) (by kernel_rfl) (fun _ _ _ h => h) (by rfl) S0 ?_
          simp only [Act.put, List.setIfInBounds_toArray, List.set_cons_zero, List.set_cons_succ]
          refine fin_takeN 8 rfl (by kernel_rfl) (by kernel_rfl) (by kernel_rfl) (by kernel_rfl) (fun _ _ _ h => h) (by rfl) S0 ?_
          simp only [Act.put, List.setIfInBounds_toArray, List.set_cons_zero, List.set_cons_succ]
          refine fin_takeN 9 rfl (by kernel_rfl) (by kernel_rfl) (by kernel_rfl) (by kernel_rfl) (fun _ _ _ h => h) (by rfl) S0 ?_
          simp only [Act.put, List.setIfInBounds_toArray, List.set_cons_zero, List.set_cons_succ]
          refine fin_takeN 10 rfl (by kernel_rfl) (by kernel_rfl) (by kernel_rfl) (by kernel_rfl) (fun _ _ _ h => h) (by rfl) S0 ?_
          simp only [Act.put, List.setIfInBounds_toArray, List.set_cons_zero, List.set_cons_succ]
          refine fin_takeN 11 rfl (by kernel_rfl) (by kernel_rfl) (by kernel_rfl) (by kernel_rfl) (fun _ _ _ h => h) (by rfl) S0 ?_
          simp only [Act.put, List.setIfInBounds_toArray, List.set_cons_zero, List.set_cons_succ]
          refine fin_takeN 12 rfl (by kernel_rfl) (by kernel_rfl) (by kernel_rfl) (by kernel_rfl) (fun _ _ _ h => h) (by rfl) S0 ?_
          simp only [Act.put, List.setIfInBounds_toArray, List.set_cons_zero, List.set_cons_succ]
          refine fin_takeN 13 rfl (by kernel_rfl) (by kernel_rfl) (by kernel_rfl) (by kernel_rfl) (fun _ _ _ h => h) (by rfl) S0 ?_
          simp only [Act.put, List.setIfInBounds_toArray, List.set_cons_zero, List.set_cons_succ]
          refine fin_take 14 (v := ?_) rfl (by kernel_rfl) (by kernel_rfl) (by kernel_rfl) (by kernel_rfl) (fun _ _ _ h => h) rfl ?_ S0 ?_
          rotate_left
          · intro W hW
            go_simp
            (try with_reducible rfl)
          simp only [Act.put, List.setIfInBounds_toArray, List.set_cons_zero, List.set_cons_succ]
          refine fin_done (by kernel_rfl) (NoPanic.normal ?_)
          go_wp2
          obtain ⟨wr, hwr⟩ : ∃ wr, wr = wq.drew := ⟨_, rfl⟩
          rw [← hwr] at S0 ⊢
          clear hwr S0'
          have S0' := S0
          clear S0
          have S0 : On wo wr.drew := S0'.drew
          have HT1 : Hid (Rd finC 20 wr.drew (.slice a3 k c3) (M.take k)) := rd_takeF (HRM.out.on S0) (by omega)
          have HT2 : Hid (Rd finC 20 wr.drew (.slice a4 dl c4) (M.drop k)) := by
            show Rd _ _ _ _ _
            rw [HA4.out, HC4.out, HDL.out]
            exact rd_dropF (HRM.out.on S0) (by omega)
          have HI2 : Hid (∀ x, x ∈ M.take k ++ [f] ++ M.drop k ↔ x ∈ A.take (n + 1)) := fun x => by
            have e := HI.out x
            rw [← List.take_append_drop k M, List.mem_append] at e
            rw [HT.out, List.mem_append, List.mem_append, List.mem_append, ← e]
            constructor
            · rintro ((h | h) | h)
              · exact Or.inl (Or.inl h)
              · exact Or.inr h
              · exact Or.inl (Or.inr h)
            · rintro ((h | h) | h)
              · exact Or.inl (Or.inl h)
              · exact Or.inr h
              · exact Or.inl (Or.inr h)
          have HRI : Hid (Ris (M.take k ++ [f] ++ M.drop k)) := ris_mid HM.out HY.out HAB.out
          have HLN : Hid ((M.take k ++ [f] ++ M.drop k).length = M.length + 1) := by show _ = _; rw [List.length_append, List.length_append, List.length_take, List.length_drop, List.length_singleton]; omega
          have HZ : Hid (w.heap.size ≤ wr.heap.size) := (HO.out.trans S0').size
          clear HA4 HC4 HDL HY HAB HI HM HN
          refine region_fz (fun W => On wo W) [] 16 (by kernel_rfl) rfl ?_
          refine fz_take 1 (v := ?_) rfl (by kernel_rfl) (by kernel_rfl) (by kernel_rfl) (by kernel_rfl) (fun _ _ _ h => h) rfl ?_ S0 ?_
          rotate_left
          · intro W hW
            go_simp
            (try with_reducible rfl)
          simp only [Act.put, List.setIfInBounds_toArray, List.set_cons_zero, List.set_cons_succ]
          refine fz_take 2 (v := ?_) rfl (by kernel_rfl) (by kernel_rfl) (by kernel_rfl) (by kernel_rfl) (fun _ _ _ h => h) rfl ?_ S0 ?_
          rotate_left
          · intro W hW
            go_simp
            (try with_reducible rfl)
          simp only [Act.put, List.setIfInBounds_toArray, List.set_cons_zero, List.set_cons_succ]
          refine fz_take 3 (v := .slice a3 k c3) rfl (by kernel_rfl) (by kernel_rfl) (by kernel_rfl) (by kernel_rfl) (fun _ _ _ h => h) rfl (fun W hW => exec_sl rfl (HSL1.out W)) S0 ?_
          simp only [Act.put, List.setIfInBounds_toArray, List.set_cons_zero, List.set_cons_succ]
          refine fz_take 5 (v := ?_) rfl (by kernel_rfl) (by kernel_rfl) (by kernel_rfl) (by kernel_rfl) (fun _ _ _ h => h) rfl ?_ S0 ?_
          rotate_left
          · intro W hW
            go_simp
            (try with_reducible rfl)
          simp only [Act.put, List.setIfInBounds_toArray, List.set_cons_zero, List.set_cons_succ]
          refine fz_take 6 (v := ?_) rfl (by kernel_rfl) (by kernel_rfl) (by kernel_rfl) (by kernel_rfl) (fun _ _ _ h => h) rfl ?_ S0 ?_
          rotate_left
          · intro W hW
            go_simp
            (try with_reducible rfl)
          simp only [Act.put, List.setIfInBounds_toArray, List.set_cons_zero, List.set_cons_succ]
          refine fz_take 7 (v := ?_) rfl (by kernel_rfl) (by kernel_rfl) (by kernel_rfl) (by kernel_rfl) (fun _ _ _ h => h) rfl ?_ S0 ?_
          rotate_left
          · intro W hW
            go_simp
            (try with_reducible rfl)
          simp only [Act.put, List.setIfInBounds_toArray, List.set_cons_zero, List.set_cons_succ]
          refine fz_take 8 (v := .agg (finA f)) rfl (by kernel_rfl) (by kernel_rfl) (by kernel_rfl) (by kernel_rfl) (fun _ _ _ h => h) rfl (fun W hW => exec_fld rfl rfl (RF.out W hW)) S0 ?_
          simp only [Act.put, List.setIfInBounds_toArray, List.set_cons_zero, List.set_cons_succ]
          refine fz_take 11 (v := ?_) rfl (by kernel_rfl) (by kernel_rfl) (by kernel_rfl) (by kernel_rfl) (fun _ _ _ h => h) rfl ?_ S0 ?_
          rotate_left
          · intro W hW
            go_simp
            (try with_reducible rfl)
          simp only [Act.put, List.setIfInBounds_toArray, List.set_cons_zero, List.set_cons_succ]
          refine fz_take 12 (v := ?_) rfl (by kernel_rfl) (by kernel_rfl) (by kernel_rfl) (by kernel_rfl) (fun _ _ _ h => h) rfl ?_ S0 ?_
          rotate_left
          · intro W hW
            go_simp
            (try with_reducible rfl)
          simp only [Act.put, List.setIfInBounds_toArray, List.set_cons_zero, List.set_cons_succ]
          refine fz_take 13 (v := .slice a4 dl c4) rfl (by kernel_rfl) (by kernel_rfl) (by kernel_rfl) (by kernel_rfl) (fun _ _ _ h => h) rfl (fun W hW => exec_sl rfl (HSL2.out W)) S0 ?_
          simp only [Act.put, List.setIfInBounds_toArray, List.set_cons_zero, List.set_cons_succ]
          refine fz_grow [(0, 44, none), (4, 48, none), (9, 53, none)] (fun i v W => (i = 0 → ∃ g, v = .slice (some ⟨g, 0, none⟩) 0 0 ∧ World.ownsRow W wr.heap.size 26 20 v 0 []) ∧ (i = 4 → World.ownsRow W wr.heap.size 26 20 v (M.take k).length ((M.take k).flatMap finC)) ∧ (i = 9 → ∃ g, v = .slice (some ⟨g, 0, none⟩) 1 1 ∧ Bk W g (finA f))) #[true, true, true, true, true, true, true, true, true, true, false, true, true, true, false, false] 3 3 (by simp) (by simp) ?_ rfl (fun _ _ h k => h.trans k) S0 ?_ (by kernel_rfl) (by kernel_rfl) ?_ ?_
          · intro x hx
            simp only [List.mem_cons, List.not_mem_nil, or_false] at hx
            rcases hx with rfl | rfl | rfl <;> rfl
          · intro i v w w' h k
            exact ⟨fun e => (fun h => by obtain ⟨g, h1, h2⟩ := h; exact ⟨g, h1, own_on h2 k⟩) (h.1 e), fun e => (fun h => own_on h k) (h.2.1 e), fun e => (fun h => by obtain ⟨g, h1, h2⟩ := h; exact ⟨g, h1, h2.on k⟩) (h.2.2 e)⟩
          · intro i d c hi
            simp only [List.mem_cons, Prod.mk.injEq, List.not_mem_nil, or_false] at hi
            rcases hi with ⟨rfl, rfl, rfl⟩ | ⟨rfl, rfl, rfl⟩ | ⟨rfl, rfl, rfl⟩
            · refine ⟨_, rfl, rfl, fun p W' l' K hr hm hS hK => ?_⟩
              have kW := hm.on
              clear hm hr
              simp only [putsA, putsD, List.foldl_cons, List.foldl_nil, Act.put, List.setIfInBounds_toArray, List.set_cons_zero, List.set_cons_succ] at hK ⊢
              go_simp
              exact hK _ _ ((On.refl W').alloc _) ⟨fun _ => ⟨_, rfl, own_empty W' _ 20 _ (show wr.drew.heap.size ≤ _ from kW.size)⟩, fun e => absurd e (by decide), fun e => absurd e (by decide)⟩
            · refine ⟨_, rfl, rfl, fun p W' l' K hr hm hS hK => ?_⟩
              obtain ⟨u0, hu0, f0⟩ := hm.get (x := (0, 44, none)) (by simp) (ready_dep hr rfl (e := ⟨0, .data⟩) (by simp) rfl)
              have g0 := f0.1 rfl
              have kW := hm.on
              clear hm hr
              simp only [putsA, putsD, List.foldl_cons, List.foldl_nil, hu0, Option.getD_some, Act.put, List.setIfInBounds_toArray, List.set_cons_zero, List.set_cons_succ] at hK ⊢
              obtain ⟨g, rfl, hE⟩ := g0
              refine wp_append_new elF finC_len _ _ rfl rfl rfl hE (HT1.out.on kW) HLT.out (by decide) (show wr.drew.heap.size ≤ _ from kW.size) ?_
              intro v' w'' h1 k1
              exact hK v' w'' k1 ⟨fun e => absurd e (by decide), fun _ => h1, fun e => absurd e (by decide)⟩
            · refine ⟨_, rfl, rfl, fun p W' l' K hr hm hS hK => ?_⟩
              have kW := hm.on
              clear hm hr
              simp only [putsA, putsD, List.foldl_cons, List.foldl_nil, Act.put, List.setIfInBounds_toArray, List.set_cons_zero, List.set_cons_succ] at hK ⊢
              refine wp_fslice rfl rfl ?_
              exact hK _ _ ((On.refl W').alloc _) ⟨fun e => absurd e (by decide), fun e => absurd e (by decide), fun _ => ⟨_, rfl, Bk.new W' _ _⟩⟩
          intro p WE hm hSE
          obtain ⟨u0, hu0, f0⟩ := hm.get (x := (0, 44, none)) (by simp) rfl
          have g0 := f0.1 rfl
          obtain ⟨u4, hu4, f4⟩ := hm.get (x := (4, 48, none)) (by simp) rfl
          have g4 := f4.2.1 rfl
          obtain ⟨u9, hu9, f9⟩ := hm.get (x := (9, 53, none)) (by simp) rfl
          have g9 := f9.2.2 rfl
          have kM := hm.on
          simp only [putsA, putsD, List.foldl_cons, List.foldl_nil, hu0, hu4, hu9, Option.getD_some, Act.put, List.setIfInBounds_toArray, List.set_cons_zero, List.set_cons_succ]
          clear hm hu0 f0 hu4 f4 hu9 f9
          obtain ⟨g9, rfl, B9⟩ := g9
          refine fz_one 10 rfl rfl (by kernel_rfl) (fun K hK => ?_)
          refine wp_append_rdG elF finC_len _ _ rfl rfl rfl (flat_oneC finC_one _) g4 (rd_one B9) HL1.out (by decide) (show wr.drew.heap.size ≤ _ from kM.size) ?_
          intro v10 w10 h10 g10
          have k10 : On wr.drew w10 := kM.grown g10 (fun q hq => (g4.lt q hq).1)
          refine hK.out _ _ (fun _ => S0.trans k10) ?_
          clear hK
          refine fz_one 14 rfl rfl (by kernel_rfl) (fun K hK => ?_)
          refine wp_append_rdG elF finC_len _ _ rfl rfl rfl (flat_oneC finC_one _) h10 (HT2.out.on k10) HL2.out (by decide) (show wr.drew.heap.size ≤ _ from k10.size) ?_
          intro v14 w14 h14 g14
          have k14 : On wr.drew w14 := k10.grown g14 (fun q hq => (h10.lt q hq).1)
          refine hK.out _ _ (fun _ => S0.trans k14) ?_
          clear hK
          refine fz_take 15 (v := ?_) rfl (by kernel_rfl) (by kernel_rfl) (by kernel_rfl) (by kernel_rfl) (fun _ _ _ h => h) rfl ?_ (S0.trans k14) ?_
          rotate_left
          · intro W hW
            go_simp
            (try with_reducible rfl)
          simp only [Act.put, List.setIfInBounds_toArray, List.set_cons_zero, List.set_cons_succ]
          refine fz_done (by kernel_rfl) (NoPanic.normal ?_)
          go_wp2
          go_roundg (A.length - (n + 1))
          case measure => omega
          case rel => exact ⟨n + 1, M.take k ++ [f] ++ M.drop k, by omega, rfl, by go_num, by rw [HLN.out]; omega, (HO.out.trans S0).trans k14, own_base h14 HZ.out, HRI, HI2⟩
    · obtain rfl : n = A.length := by omega
      have HI2 : Hid (∀ x, x ∈ M ↔ x ∈ A) := by
        have := HI.out
        rw [List.take_length] at this
        exact this
      have HRM : Hid (Rd finC 20 wr (.slice a3 M.length c3) M) := Rd.own finC_len HN.out
      clear ha3
      go_wp2
      go_ret
      exact ⟨_, M, rfl, HO.out, HRM.out, HM.out, hX, HI2.out⟩
end Go.Proofs.YteddggkelbpmaaaDoor
