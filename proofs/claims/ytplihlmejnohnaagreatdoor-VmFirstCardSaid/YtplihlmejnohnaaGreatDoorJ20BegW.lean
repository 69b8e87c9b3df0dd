/- The same, for operations that are guarded. -/
import Derived.Test.YtplihlmejnohnaaGreatDoorJ05RegFin
import Derived.Test.YtplihlmejnohnaaGreatDoorI64V
import Derived.Test.YtplihlmejnohnaaGreatDoorJ18StepH
namespace Go.Proofs.YtplihlmejnohnaaGreatDoor
open Go.RowKit

section
variable {P : Program} {Q : Exit → Act → World → Prop} {md : Region.Mode} {S : World → Prop} {z : Nat}
theorem fin_takeG {l rest : List Oper} (i : Nat) {oi : Oper} {v : Value} {n : Nat} {listed : Array Bool} {a : Act} {w : World} (hi : l.drop i = oi :: rest)
    (hs : Region.noSelect l.toArray = true) (hf : Region.free md l.toArray listed i = true) (hr : (Region.ready md l.toArray listed).contains i = true) (hz : waitsB md l.toArray z i = true)
    (hQ : ∀ c a w, Q (.panic c) (a.put oi.dst v) w → Q (.panic c) a w) (hg : Region.wanted oi (yielded l.toArray a.tmps) = true) (hy : ∀ w, S w → (execOp a.eval oi).run P w = .ok (.value v) w) (hS : S w)
    (h : wpFin P md l.toArray Q S z n (listed.setIfInBounds i true) (a.put oi.dst v) w) : wpFin P md l.toArray Q S z (n + 1) listed a w := by
  have hi' : l.toArray[i]? = some oi := by
    rw [List.getElem?_toArray]
    have := congrArg (·[0]?) hi
    simpa using this
  exact fin_first hi' (Region.noSelect_spec hs) hQ hz n listed a w (Region.free_spec hi' hf) (by simpa using hr) (Or.inl ⟨hg, hy⟩) hS h
theorem fin_takeN {l rest : List Oper} (i : Nat) {oi : Oper} {n : Nat} {listed : Array Bool} {a : Act} {w : World} (hi : l.drop i = oi :: rest)
    (hs : Region.noSelect l.toArray = true) (hf : Region.free md l.toArray listed i = true) (hr : (Region.ready md l.toArray listed).contains i = true) (hz : waitsB md l.toArray z i = true)
    (hQ : ∀ c a w, Q (.panic c) (a.put oi.dst undef) w → Q (.panic c) a w) (hg : Region.wanted oi (yielded l.toArray a.tmps) = false) (hS : S w)
    (h : wpFin P md l.toArray Q S z n (listed.setIfInBounds i true) (a.put oi.dst undef) w) : wpFin P md l.toArray Q S z (n + 1) listed a w := by
  have hi' : l.toArray[i]? = some oi := by
    rw [List.getElem?_toArray]
    have := congrArg (·[0]?) hi
    simpa using this
  exact fin_first hi' (Region.noSelect_spec hs) hQ hz n listed a w (Region.free_spec hi' hf) (by simpa using hr) (Or.inr ⟨hg, rfl⟩) hS h
theorem fin_oneG {l rest : List Oper} (i : Nat) {o : Oper} {n : Nat} {listed : Array Bool} {a : Act} {w : World} (hi : l.drop i = o :: rest) (hg : Region.wanted o (yielded l.toArray a.tmps) = true) (hr : Region.ready md l.toArray listed = [i])
    (h : ∀ K : Act → World → Prop, Hid (∀ a' w', (i ≠ z → S w') → wpFin P md l.toArray Q S z n (listed.setIfInBounds i true) a' w' → K a' w') → o.wp P a w K Q) : wpFin P md l.toArray Q S z (n + 1) listed a w := by
  have hi' : l.toArray[i]? = some o := by
    rw [List.getElem?_toArray]
    have := congrArg (·[0]?) hi
    simpa using this
  refine ⟨fun h0 => (by rw [hr] at h0; cases h0), fun j hj => ?_⟩
  rw [hr] at hj
  obtain rfl : j = i := by simpa using hj
  unfold wpOp
  simp only [hi']
  rw [if_pos hg]
  exact Or.inl (h _ (fun a' w' h1 h2 => ⟨h1, h2⟩))
/-- More may be asked from here on. -/
theorem fin_mono {ops : Array Oper} {S' : World → Prop} (hS : ∀ w, S' w → S w) : ∀ {n : Nat} {listed : Array Bool} {a : Act} {w : World}, wpFin P md ops Q S' z n listed a w → wpFin P md ops Q S z n listed a w
  | 0, _, _, _, h => h
  | _ + 1, _, _, _, h => ⟨h.1, fun i hi => wpOp_mono (fun _ _ h' => ⟨fun hz => hS _ (h'.1 hz), fin_mono hS h'.2⟩) (h.2 i hi)⟩
end
end Go.Proofs.YtplihlmejnohnaaGreatDoor

namespace Go.Proofs.YtplihlmejnohnaaGreatDoor
open Go.RowKit

def begP (LT : List UInt8) (L : List InitT) : List Int := L.foldl (fun N x => N.set (plc LT x.l).toNat x.v) (List.replicate LT.length 0)
def begTo (LT : List UInt8) (L : List InitT) (N : List Int) : List Int := L.foldl (fun N x => N.set (plc LT x.l).toNat x.v) N
theorem made_i64 (n : Nat) : (madeCells (Value.int .i64 0).cells (n * 1)).toList = (List.replicate n (0 : Int)).map i64V := by
  apply List.ext_getElem?
  intro j
  rw [Nat.mul_one, List.map_replicate, List.getElem?_replicate]
  by_cases hj : j < n
  · rw [if_pos hj]
    simp [madeCells, Value.cells, hj, i64V, Nat.mod_one]
  · rw [if_neg hj]
    simp [madeCells, Value.cells, hj]
theorem row_put1 {w : World} {base c g k n : Nat} {e : TypeId} {L : List Int} (hn : L.length = n) (h : w.ownsRow base e 1 (.slice (some ⟨g, 0, none⟩) n c) n (L.map i64V)) (hk : k < n) (x : Int) :
    (w.setCell ⟨g, k, none⟩ (.int .i64 x)).ownsRow base e 1 (.slice (some ⟨g, 0, none⟩) n c) n ((L.set k x).map i64V) := by
  subst hn
  rcases h.2 with ⟨_, h0⟩ | ⟨g', cap, cur, hv, hb, hh, hc, hm, hs, ht⟩
  · omega
  · simp only [Value.slice.injEq, Option.some.injEq, Addr.mk.injEq] at hv
    obtain ⟨⟨rfl, _, _⟩, _, rfl⟩ := hv
    have hl : (L.map i64V).length = L.length * 1 := h.1
    have e1 : cur.toList = L.map i64V ++ cur.toList.drop (L.length * 1) := by rw [← ht, List.take_append_drop]
    have hh' : w.heap[g]? = some (.cells cur.toList.toArray e (0, 0)) := by simpa using hh
    have hp := heap_put hh' k (.int .i64 x)
    rw [e1, List.set_append_left _ _ (by rw [hl]; omega)] at hp
    have hset : (L.map i64V).set k (.int .i64 x) = (L.set k x).map i64V := by rw [List.map_set]; rfl
    rw [hset] at hp
    have hl2 : ((L.set k x).map i64V).length = L.length * 1 := by simp
    refine ⟨hl2, Or.inr ⟨g, c, _, rfl, hb, hp, hc, hm, ?_, ?_⟩⟩
    · have hz : cur.toList.length = c * 1 := by simpa using hs
      rw [e1, List.length_append, hl] at hz
      simp only [List.size_toArray, List.length_append, hl2]
      exact hz
    · simp only []
      rw [List.take_left' hl2]
set_option maxHeartbeats 4000000 in
set_option maxRecDepth 8000 in
theorem begs_is (LT : List UInt8) (L : List InitT) (al a : Option Addr) (cl c : Nat) (w : World) (hl : Rd byteC 1 w (.slice al LT.length cl) LT) (h : Rd iniC 2 w (.slice a L.length c) L) (h26 : LT.length ≤ 26)
    (hpl : ∀ x ∈ L, ∃ k : Nat, k < LT.length ∧ plc LT x.l = (k : Int)) :
    Calls Tryz.prog 78 #[.slice a L.length c, .slice al LT.length cl] w fun e w' => ∃ a2 c2, e = .returned (.slice a2 LT.length c2) ∧ w'.ownsRow w.heap.size 2 1 (.slice a2 LT.length c2) LT.length ((begP LT L).map i64V) ∧ On w w' := by
  obtain ⟨i0, hi, hz0, hz1, hz2⟩ := info_parts infoI64
  obtain ⟨w2, hmk, hown, hgr⟩ := run_make_full (P := Tryz.prog) w w.heap.size 24 2 i0 (.int .i64 0) 1 Tryz.underlying24 hi hz0 hz1 .i64 .i64 LT.length (by rw [hz2]; omega) (by unfold maxLen; omega) (Nat.le_refl _)
  rw [made_i64] at hown
  have K2 : Hid (On w w2) := (On.refl w).grownNone hgr
  have HR : Hid (Rd iniC 2 w (.slice a L.length c) L) := h
  have HL : Hid (Rd byteC 1 w (.slice al LT.length cl) LT) := hl
  have HP : Hid (∀ x ∈ L, ∃ k : Nat, k < LT.length ∧ plc LT x.l = (k : Int)) := hpl
  have HW : Hid (w2.ownsRow w.heap.size 2 1 (.slice (some ⟨w.heap.size, 0, none⟩) LT.length LT.length) LT.length ((List.replicate LT.length (0 : Int)).map i64V)) := hown
  have hsz2 : w.heap.size < w2.heap.size := own_lt hown
  obtain ⟨B, hB⟩ : ∃ B, B = begP LT L := ⟨_, rfl⟩
  rw [← hB]
  have HB : Hid (B = begTo LT (L.drop 0) (List.replicate LT.length 0)) := hB
  obtain ⟨_, _, _, _, hmL⟩ := h.slice
  clear hown hgr h hl hpl hB
  go_enter Tryz.func78, Tryz.ntmps78
  go_wp2
  clear hmk
  go_loopg [13] L.length (fun gg s13 wq => ∃ (n : Nat) (N : List Int), n ≤ L.length ∧ gg = L.length - n ∧ s13 = .int .i64 n ∧ N.length = LT.length ∧ w.heap.size < wq.heap.size ∧ Hid (On w wq) ∧ Hid (wq.ownsRow w.heap.size 2 1 (.slice (some ⟨w.heap.size, 0, none⟩) LT.length LT.length) LT.length (N.map i64V)) ∧ Hid (B = begTo LT (L.drop n) N))
  case atStart => exact ⟨0, _, Nat.zero_le _, rfl, rfl, by simp, hsz2, K2, HW, HB⟩
  case round =>
    clear HW K2 hsz2 HB
    obtain ⟨n, N, hn, hk, rfl, hNl, hsz, HO, HW, HB⟩ := hrel
    rcases Nat.lt_or_ge n L.length with hlt | hge
    · obtain ⟨x, hx⟩ : ∃ x, L[n]? = some x := ⟨_, List.getElem?_eq_getElem hlt⟩
      obtain ⟨g, off, rfl, hg, hcell⟩ := (HR.out.on HO.out).at hx
      have q0 : wr.cell? ⟨g, off + n * 2, none⟩ = _ := hcell 0 _ rfl
      have q1 : wr.cell? ⟨g, off + n * 2 + 1, none⟩ = _ := hcell 1 _ rfl
      obtain ⟨k, hkl, hke⟩ := HP.out x (List.mem_of_getElem? hx)
      have hP := fun W (k : On w W) => place_is LT x.l al cl W (HL.out.on k) (by omega)
      rw [hke] at hP
      have HB2 : Hid (B = begTo LT (L.drop (n + 1)) (N.set k x.v)) := by
        show B = _
        rw [HB.out, List.drop_eq_getElem_cons hlt, begTo, List.foldl_cons]
        have : L[n] = x := (List.getElem?_eq_some_iff.1 hx).2
        rw [this, hke]
        rfl
      clear hcell hx HB hke
      obtain ⟨W1, hW1⟩ : ∃ W1, W1 = wr.alloc (.cells #[.int .i64 x.l, .int .i64 x.v] 116) := ⟨_, rfl⟩
      have IB : Bk W1 wr.heap.size #[.int .i64 x.l, .int .i64 x.v] := by rw [hW1]; exact Bk.new wr _ _
      have kW : On wr W1 := by rw [hW1]; exact (On.refl wr).alloc _
      have OW := own_on HW.out kW
      have zc : W1.drew.cell? ⟨w.heap.size, k, none⟩ = some (.int .i64 (N.getD k 0)) := by
        show W1.cell? _ = _
        rw [OW.cellAt _ (by omega), List.getElem?_map, List.getElem?_eq_getElem (by omega), List.getD_eq_getElem?_getD, List.getElem?_eq_getElem (by omega)]
        rfl
      have zf : W1.drew.frozen? ⟨w.heap.size, k, none⟩ = false := OW.frozenAt k
      have hszW : w.heap.size < W1.drew.heap.size := by have := kW.size; show w.heap.size < W1.heap.size; omega
      have qS : W1.drew.cell? ⟨wr.heap.size, 0, none⟩ = some (.int .i64 x.l) ∧ W1.drew.cell? ⟨wr.heap.size, 1, none⟩ = some (.int .i64 x.v) := ⟨IB.at (i := 0) rfl, IB.at (i := 1) rfl⟩
      go_wp2
      rw [← hW1]
      clear hW1
      refine region_fin (fun W => W.cell? ⟨wr.heap.size, 0, none⟩ = some (.int .i64 x.l) ∧ W.cell? ⟨wr.heap.size, 1, none⟩ = some (.int .i64 x.v)) 8 9 (by kernel_rfl) rfl ?_
      refine fin_take 0 (v := ?_) rfl (by kernel_rfl) (by kernel_rfl) (by kernel_rfl) (by kernel_rfl) (fun _ _ _ h => h) rfl ?_ qS ?_
      rotate_left
      · intro W hW
        go_simp
        (try with_reducible rfl)
      simp only [Act.put, List.setIfInBounds_toArray, List.set_cons_zero, List.set_cons_succ]
      refine fin_take 1 (v := ?_) rfl (by kernel_rfl) (by kernel_rfl) (by kernel_rfl) (by kernel_rfl) (fun _ _ _ h => h) rfl ?_ qS ?_
      rotate_left
      · intro W hW
        go_simp
        (try with_reducible rfl)
      simp only [Act.put, List.setIfInBounds_toArray, List.set_cons_zero, List.set_cons_succ]
      refine fin_take 2 (v := ?_) rfl (by kernel_rfl) (by kernel_rfl) (by kernel_rfl) (by kernel_rfl) (fun _ _ _ h => h) rfl ?_ qS ?_
      rotate_left
      · intro W hW
        go_simp
        (try with_reducible rfl)
      simp only [Act.put, List.setIfInBounds_toArray, List.set_cons_zero, List.set_cons_succ]
      refine fin_take 3 (v := ?_) rfl (by kernel_rfl) (by kernel_rfl) (by kernel_rfl) (by kernel_rfl) (fun _ _ _ h => h) rfl ?_ qS ?_
      rotate_left
      · intro W hW
        go_simp
        (try with_reducible rfl)
      simp only [Act.put, List.setIfInBounds_toArray, List.set_cons_zero, List.set_cons_succ]
      refine fin_take 5 (v := ?_) rfl (by kernel_rfl) (by kernel_rfl) (by kernel_rfl) (by kernel_rfl) (fun _ _ _ h => h) rfl ?_ qS ?_
      rotate_left
      · intro W hW
        go_simp
        (try with_reducible rfl)
      simp only [Act.put, List.setIfInBounds_toArray, List.set_cons_zero, List.set_cons_succ]
      refine fin_take 6 (v := ?_) rfl (by kernel_rfl) (by kernel_rfl) (by kernel_rfl) (by kernel_rfl) (fun _ _ _ h => h) rfl ?_ qS ?_
      rotate_left
      · intro W hW
        go_simp
        (try with_reducible rfl)
      simp only [Act.put, List.setIfInBounds_toArray, List.set_cons_zero, List.set_cons_succ]
      refine fin_one 4 rfl rfl (by kernel_rfl) (fun K hK => ?_)
      go_simp
      refine (hP _ (HO.out.trans kW.drew)).mono ?_
      rintro _ w5 ⟨rfl, hw5⟩
      subst w5
      refine hK.out _ _ (fun _ => qS) ?_
      clear hK
      refine fin_take 7 (v := ?_) rfl (by kernel_rfl) (by kernel_rfl) (by kernel_rfl) (by kernel_rfl) (fun _ _ _ h => h) rfl ?_ qS ?_
      rotate_left
      · intro W hW
        go_simp
        (try with_reducible rfl)
      simp only [Act.put, List.setIfInBounds_toArray, List.set_cons_zero, List.set_cons_succ]
      refine fin_one 8 rfl rfl (by kernel_rfl) (fun K hK => ?_)
      go_simp
      refine hK.out _ _ (fun h => absurd rfl h) ?_
      refine fin_done (by kernel_rfl) (NoPanic.normal ?_)
      go_wp2
      have hput := own_on (row_put1 hNl OW hkl x.v) (On.refl _).drew
      go_roundg (L.length - (n + 1))
      case measure => omega
      case rel => exact ⟨n + 1, N.set k x.v, by omega, rfl, by go_num, by rw [List.length_set]; exact hNl, by show w.heap.size < (W1.setCell ⟨w.heap.size, k, none⟩ (.int .i64 x.v)).heap.size; rw [size_set]; exact hszW, ((HO.out.trans kW).setNew (Nat.le_refl _) _).drew, hput, HB2⟩
    · obtain rfl : n = L.length := by omega
      obtain rfl : B = N := by rw [HB.out, List.drop_length]; rfl
      clear HB
      go_wp2
      go_ret
      exact ⟨_, _, rfl, HW.out, HO.out⟩
end Go.Proofs.YtplihlmejnohnaaGreatDoor
