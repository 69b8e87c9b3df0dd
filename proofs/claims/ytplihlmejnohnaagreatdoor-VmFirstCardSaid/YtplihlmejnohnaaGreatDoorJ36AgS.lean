/- A region whose last writers wait for what is taken only by a long chain. -/
import Derived.Test.YtplihlmejnohnaaGreatDoorJ21RLocs
import Derived.Test.YtplihlmejnohnaaGreatDoorJ26AgT
import Derived.Test.YtplihlmejnohnaaGreatDoorJ35VmB
namespace Go.Proofs.YtplihlmejnohnaaGreatDoor
open Go.RowKit

section
variable {P : Program} {ops : Array Oper} {Q : Exit → Act → World → Prop} {md : Region.Mode} {S : World → Prop} {Z : List Nat}
/-- Number z comes behind number i: it waits for it, or for one that has not been and comes behind it. -/
def lateD (md : Region.Mode) (ops : Array Oper) (listed : Array Bool) (i : Nat) : Nat → Nat → Bool
  | 0, z => waitsB md ops z i
  | n + 1, z => waitsB md ops z i || (List.range ops.size).any fun m => waitsB md ops z m && ((listed.getD m true == false) && lateD md ops listed i n m)
theorem lateD_no {listed : Array Bool} {i : Nat} (hi : i ∈ Region.ready md ops listed) : ∀ (n z : Nat), lateD md ops listed i n z = true → z ∉ Region.ready md ops listed
  | 0, z, h => late_no (by unfold lateB; simp only [lateD] at h; rw [h]; rfl) hi
  | n + 1, z, h => by
    intro hz
    obtain ⟨_, oz, hoz, hall⟩ := mem_ready.1 hz
    unfold lateD at h
    simp only [Bool.or_eq_true, List.any_eq_true, List.mem_range, Bool.and_eq_true, beq_iff_eq] at h
    rcases h with h | ⟨m, hm, h2, h3, _⟩
    · obtain ⟨e, he, hb, heq⟩ := waits_spec h hoz
      exact ready_apart hi hz hoz he hb heq
    · obtain ⟨e, he, hb, heq⟩ := waits_spec h2 hoz
      have h1 : listed.getD m false = true := heq ▸ hall e he hb
      unfold Array.getD at h3 h1
      split at h3
      · rename_i hlt
        rw [dif_pos hlt] at h1
        exact absurd (h3.symm.trans h1) (by decide)
      · cases h3
theorem lateD_set {listed : Array Bool} {i j : Nat} (hi : i ∈ Region.ready md ops listed) (hj : j ∈ Region.ready md ops listed) : ∀ (n z : Nat), lateD md ops listed i n z = true → lateD md ops (listed.setIfInBounds j true) i n z = true
  | 0, _, h => h
  | n + 1, z, h => by
    unfold lateD at h ⊢
    simp only [Bool.or_eq_true, List.any_eq_true, List.mem_range, Bool.and_eq_true, beq_iff_eq] at h ⊢
    rcases h with h | ⟨m, hm, h1, h2, h3⟩
    · exact Or.inl h
    · refine Or.inr ⟨m, hm, h1, ?_, lateD_set hi hj n m h3⟩
      have hne : j ≠ m := by
        rintro rfl
        exact lateD_no hi n j h3 hj
      exact (getD_set_ne true hne).trans h2
theorem fzd_first {i : Nat} {oi : Oper} {v : Value} (d : Nat) (hi : ops[i]? = some oi) (hsel : ∀ (j : Nat) (o : Oper) cs b, ops[j]? = some o → o.op ≠ .select cs b)
    (hQ : ∀ c a w, Q (.panic c) (a.put oi.dst v) w → Q (.panic c) a w) :
    ∀ (n : Nat) (listed : Array Bool) (a : Act) (w : World), (∀ z ∈ Z, lateD md ops listed i d z = true) → Free md ops i oi listed → i ∈ Region.ready md ops listed → YieldsIf P ops S oi v a → S w →
      wpFz P md ops Q S Z n (listed.setIfInBounds i true) (a.put oi.dst v) w → wpFz P md ops Q S Z (n + 1) listed a w
  | n, listed, a, w, hz, hF, hr, hy, hS, H => by
    refine ⟨fun h => absurd (h ▸ hr) (by simp), fun j hj => ?_⟩
    rcases Decidable.em (j = i) with rfl | hji
    · exact hy.wpOp hi hS ⟨fun _ => hS, H⟩
    obtain ⟨hun, oj, hoj, _⟩ := mem_ready.1 hj
    have hno : ∀ e ∈ oj.after, Region.binds md e = true → e.on ≠ i := fun e he hb => ready_apart hr hj hoj he hb
    have hjz : j ∉ Z := fun hm => lateD_no hr d j (hz j hm) hj
    match n, H with
    | 0, H => exact absurd (H.1 ▸ ready_mono hj hji) (by simp)
    | n + 1, H =>
      refine wpOp_mono (fun a' w' k => ⟨k.2.1, ?_⟩) (wpOp_putIf hoj (hF j oj hoj hji hun hno) (fun cs b => hsel i oi cs b hi) (fun cs b => hsel j oj cs b hoj) hQ hy (H.2 j (ready_mono hj hji)))
      exact fzd_first d hi hsel hQ n _ a' w' (fun z hm => lateD_set hr hj d z (hz z hm)) (hF.set hun) (ready_mono hr (Ne.symm hji)) k.1 (k.2.1 hjz) (Array.setIfInBounds_comm true true hji ▸ k.2.2)
theorem fzd_take {l rest : List Oper} (d i : Nat) {oi : Oper} {v : Value} {n : Nat} {listed : Array Bool} {a : Act} {w : World} (hi : l.drop i = oi :: rest)
    (hs : Region.noSelect l.toArray = true) (hf : Region.free md l.toArray listed i = true) (hr : (Region.ready md l.toArray listed).contains i = true) (hz : (Z.all fun z => lateD md l.toArray listed i d z) = true)
    (hQ : ∀ c a w, Q (.panic c) (a.put oi.dst v) w → Q (.panic c) a w) (hg : oi.guard = none) (hy : ∀ w, S w → (execOp a.eval oi).run P w = .ok (.value v) w) (hS : S w)
    (h : wpFz P md l.toArray Q S Z n (listed.setIfInBounds i true) (a.put oi.dst v) w) : wpFz P md l.toArray Q S Z (n + 1) listed a w := by
  have hi' := at_of_drop hi
  exact fzd_first d hi' (Region.noSelect_spec hs) hQ n listed a w (fun z hm => List.all_eq_true.1 hz z hm) (Region.free_spec hi' hf) (by simpa using hr) (Or.inl ⟨by simp [Region.wanted, hg], hy⟩) hS h
end
end Go.Proofs.YtplihlmejnohnaaGreatDoor

namespace Go.Proofs.YtplihlmejnohnaaGreatDoor
open Go.RowKit

theorem srcI_len (LT : List UInt8) (IN : List Int) (h : IN.length = LT.length) : (srcI LT IN).length = LT.length := by
  unfold srcI
  rw [List.length_zipWith, h, Nat.min_self]
theorem srcI_at {LT : List UInt8} {IN : List Int} {n : Nat} {b : UInt8} {v : Int} (h1 : LT[n]? = some b) (h2 : IN[n]? = some v) : (srcI LT IN)[n]? = some ⟨(b.toNat : Int), v⟩ := by
  unfold srcI
  rw [List.getElem?_zipWith, h1, h2]
theorem Tb.news {w : World} {N : Nat} {cs : List Value} {T : TypeId} (h : Tb w N cs.toArray T) : ∀ j u, cs[j]? = some u → w.cell? ((⟨N, 0, none⟩ : Addr).add j) = some u := fun j u hu => by
  rw [Addr.add_mid, Nat.zero_add]
  exact h.at (by rw [List.getElem?_toArray]; exact hu)
/-- What source has made: a copy of the program, its answer's block, the test. -/
structure SrJ (w W : World) (pc : Array Value) (t : List Value) : Prop where
  on : On w W
  pb : Tb W w.heap.size pc 27
  rb : Tb W (w.heap.size + 1) #[.string ⟨#[]⟩, .slice none 0 0, .slice none 0 0, .int .i64 0, .slice none 0 0] 68
  tb : Tb W (w.heap.size + 2) t.toArray 68
section
variable {w W W' : World} {pc : Array Value} {t : List Value}
theorem SrJ.go (h : SrJ w W pc t) (k : On W W') : SrJ w W' pc t := ⟨h.on.trans k, h.pb.on k, h.rb.on k, h.tb.on k⟩
theorem Tb.grown {N base : Nat} {cs : Array Value} {T : TypeId} {v : Value} (h : Tb W N cs T) (hg : W.grownBy W' v.ownBlock) (hN : N < base) (hv : ∀ g, v.ownBlock = some g → base ≤ g) : Tb W' N cs T :=
  (hg.block N h.lt (fun e => by have := hv N e.symm; omega)).trans h
theorem SrJ.grown {v : Value} (h : SrJ w W pc t) (hg : W.grownBy W' v.ownBlock) (hv : ∀ g, v.ownBlock = some g → w.heap.size + 3 ≤ g) : SrJ w W' pc t :=
  ⟨h.on.grown hg (fun g e => by have := hv g e; omega), h.pb.grown hg (by omega) hv, h.rb.grown hg (by omega) hv, h.tb.grown hg (by omega) hv⟩
theorem SrJ.set (h : SrJ w W pc t) (i : Nat) (u : Value) : SrJ w (W.setCell ⟨w.heap.size + 2, i, none⟩ u) pc (t.set i u) :=
  ⟨h.on.setNew (by omega) u, h.pb.putFar (by omega) _ _, h.rb.putFar (by omega) _ _, h.tb.put i u⟩
theorem SrJ.lt (h : SrJ w W pc t) : w.heap.size + 3 ≤ W.heap.size := h.tb.lt
end
theorem Own2.setB {α : Type} {C : α → List Value} {k : Nat} {eo ei : TypeId} {w : World} {base N : Nat} {v : Value} {LL : List (List α)} (h : Own2 C k eo ei w base v LL) (hN : N < base) (i : Nat) (u : Value) : Own2 C k eo ei (w.setCell ⟨N, i, none⟩ u) base v LL := by
  obtain ⟨vs, h1, h2, h3⟩ := h
  exact ⟨vs, h1, ownsRow_setCell_below h2 hN u, fun j x L a b => ownsRow_setCell_below (h3 j x L a b) hN u⟩
section
variable {o : Oper} {a : Act} {w : World} {K : Act → World → Prop} {Q : Exit → Act → World → Prop} {x : Operand} {y z : Int} {u : Value}
theorem wp_bsI (ho : o.op = .buildSlice 63 1 #[(0, x)]) (hx : a.eval x = .agg #[.int .i64 y, .int .i64 z]) (k : ∀ w', On w w' → Tb w' w.heap.size (iniC ⟨y, z⟩).toArray 116 → K (a.put o.dst (.slice (some ⟨w.heap.size, 0, none⟩) 1 1)) w') : o.wp Tryz.prog a w K Q := by
  have h := k _ ((On.refl w).alloc (.cells #[.int .i64 y, .int .i64 z] 116)) (Tb.new w _ 116)
  unfold Oper.wp execOp
  simp only [ho, List.map_toArray, List.map_cons, List.map_nil, hx]
  go_simp
  exact h
theorem wp_bsT {m c : Nat} {al : Option Addr} (ho : o.op = .buildSlice 25 1 #[(0, x)]) (hx : a.eval x = .slice al m c) (k : ∀ w', On w w' → Tb w' w.heap.size [Value.slice al m c].toArray 117 → K (a.put o.dst (.slice (some ⟨w.heap.size, 0, none⟩) 1 1)) w') : o.wp Tryz.prog a w K Q := by
  have h := k _ ((On.refl w).alloc (.cells #[.slice al m c] 117)) (Tb.new w _ 117)
  unfold Oper.wp execOp
  simp only [ho, List.map_toArray, List.map_cons, List.map_nil, hx]
  go_simp
  exact h
end
theorem infoSrcI : (Tryz.prog.info? 116).map (fun i => (i.zero, i.size, i.bytes)) = some (some (.agg #[.int .i64 0, .int .i64 0]), 2, 16) := by kernel_rfl
theorem infoSrcT : (Tryz.prog.info? 117).map (fun i => (i.zero, i.size, i.bytes)) = some (some (.slice none 0 0), 1, 24) := by kernel_rfl
theorem up_one {n m : Nat} (h : n < m) (hm : m ≤ 1000) : IntKind.i64.wrap ((n : Int) + 1) = ((n + 1 : Nat) : Int) := wrapT (k := (n : Int) + 1) (by omega) (by omega)
theorem up_two {n m : Nat} (h : n < m) (hm : m ≤ 1000) : wrap64 ((n : Int) + 1) = ((n + 1 : Nat) : Int) := wrapS (k := (n : Int) + 1) (by omega) (by omega)
theorem own_off {w W : World} {N base k n : Nat} {e : TypeId} {v : Value} {xs : List Value} (o : OffV N w W) (h : w.ownsRow base e k v n xs) (hN : N < base) : W.ownsRow base e k v n xs := by
  refine ⟨h.1, ?_⟩
  rcases h.2 with h2 | ⟨g, cap, cur, hv, hb, hh, r⟩
  · exact Or.inl h2
  · exact Or.inr ⟨g, cap, cur, hv, hb, (o.block g (lt_of_block hh) (by omega)).trans hh, r⟩
theorem Own2.off {α : Type} {C : α → List Value} {k : Nat} {eo ei : TypeId} {w W : World} {base N : Nat} {v : Value} {LL : List (List α)} (o : OffV N w W) (h : Own2 C k eo ei w base v LL) (hN : N < base) : Own2 C k eo ei W base v LL := by
  obtain ⟨vs, h1, h2, h3⟩ := h
  exact ⟨vs, h1, own_off o h2 hN, fun j x L a b => own_off o (h3 j x L a b) hN⟩
theorem test_sz : (Tryz.prog.info? 68).map (·.size) = some 5 := by kernel_rfl
theorem fields_test : Tryz.prog.underlying 68 = some (.struct (Tryz.prog.fieldsOf 68)) := by kernel_rfl
theorem test_one (s : ByteArray) (a b : Option Addr) (m c n d : Nat) : ∀ v ∈ (#[.string s, .slice a m c, .slice b n d, .int .i64 0, .slice none 0 0] : Array Value), v.oneCell' = true := by
  intro v hv
  simp only [List.mem_toArray, List.mem_cons, List.not_mem_nil, or_false] at hv
  rcases hv with rfl | rfl | rfl | rfl | rfl <;> rfl
theorem ne_ini_thr : (117 : TypeId) ≠ 116 := by decide
set_option maxHeartbeats 8000000 in
set_option maxRecDepth 8000 in
theorem source_is (LT : List UInt8) (IN : List Int) (LL : List (List InsT)) (v : Value) (w : World) (h : ProgFl w v LT IN LL) (hI : IN.length = LT.length) (hf : ∀ L ∈ LL, L.length ≤ 1000000 ∧ locsOk LT.length L) (h4 : LT.length ≤ 1000) (h4' : LL.length ≤ 1000) :
    Calls Tryz.prog 57 #[v] w fun e w' => ∃ tv, e = .returned tv ∧ TestRd w' tv (srcT LT IN LL) ∧ On w w' := by
  obtain ⟨i0, hi0, hz0, hz1, hz2⟩ := info_parts infoSrcI
  obtain ⟨j0, hj0, jz0, jz1, jz2⟩ := info_parts infoSrcT
  obtain ⟨a1, c1, a2, c2, a3, c3, rfl, r1, r2, r3⟩ := h.ex
  have H1 : Hid (Rd byteC 1 w (.slice a1 LT.length c1) LT) := r1
  have H2 : Hid (Rd intC 1 w (.slice a2 IN.length c2) IN) := r2
  have H3 : Hid (Rd2 insC 9 w (.slice a3 LL.length c3) LL) := r3
  have HF : Hid (∀ L ∈ LL, L.length ≤ 1000000 ∧ locsOk LT.length L) := hf
  have HI : Hid (IN.length = LT.length) := hI
  have HN4 : Hid (LT.length ≤ 1000 ∧ LL.length ≤ 1000) := ⟨h4, h4'⟩
  obtain ⟨m2, hm2⟩ : ∃ m2, m2 = IN.length := ⟨_, rfl⟩
  have HM2 : Hid (m2 = IN.length) := hm2
  clear h r1 r2 r3 hf hI h4 h4'
  rw [← hm2]
  obtain ⟨PCV, hPC⟩ : ∃ PCV : Array Value, PCV = #[.slice a1 LT.length c1, .slice a2 m2 c2, .slice a3 LL.length c3] := ⟨_, rfl⟩
  obtain ⟨W3, hW3⟩ : ∃ W3, W3 = ((w.alloc (.cells #[.slice a1 LT.length c1, .slice a2 m2 c2, .slice a3 LL.length c3] 27)).alloc (.cells #[.string ⟨#[]⟩, .slice none 0 0, .slice none 0 0, .int .i64 0, .slice none 0 0] 68)).alloc (.cells #[.string ⟨#[97]⟩, .slice none 0 0, .slice none 0 0, .int .i64 0, .slice none 0 0] 68) := ⟨_, rfl⟩
  have J0 : Hid (SrJ w W3 PCV [.string ⟨#[97]⟩, .slice none 0 0, .slice none 0 0, .int .i64 0, .slice none 0 0]) := by
    refine ⟨?_, ?_, ?_, ?_⟩
    · rw [hW3]; exact (((On.refl w).alloc _).alloc _).alloc _
    · rw [hW3, hPC]; exact ((Tb.new w _ _).alloc _).alloc _
    · rw [hW3]
      have := (Tb.new (w.alloc (.cells #[.slice a1 LT.length c1, .slice a2 m2 c2, .slice a3 LL.length c3] 27)) #[.string ⟨#[]⟩, .slice none 0 0, .slice none 0 0, .int .i64 0, .slice none 0 0] 68).alloc (.cells #[.string ⟨#[97]⟩, .slice none 0 0, .slice none 0 0, .int .i64 0, .slice none 0 0] 68)
      rwa [World.size_alloc] at this
    · rw [hW3]
      have := Tb.new ((w.alloc (.cells #[.slice a1 LT.length c1, .slice a2 m2 c2, .slice a3 LL.length c3] 27)).alloc (.cells #[.string ⟨#[]⟩, .slice none 0 0, .slice none 0 0, .int .i64 0, .slice none 0 0] 68)) #[.string ⟨#[97]⟩, .slice none 0 0, .slice none 0 0, .int .i64 0, .slice none 0 0] 68
      rwa [World.size_alloc, World.size_alloc] at this
  have HPC : Hid (PCV = #[.slice a1 LT.length c1, .slice a2 m2 c2, .slice a3 LL.length c3]) := hPC
  clear hm2 hPC
  go_enter Tryz.func57, Tryz.ntmps57
  go_wp2_with fail
  rw [← hW3]
  clear hW3
  go_loopg [12] LT.length (fun gg s12 wq => ∃ (n : Nat) (a : Option Addr) (c : Nat), n ≤ LT.length ∧ gg = LT.length - n ∧ s12 = .int .i64 n ∧ Hid (SrJ w wq PCV [.string ⟨#[97]⟩, .slice a n c, .slice none 0 0, .int .i64 0, .slice none 0 0]) ∧ Hid (wq.ownsRow (w.heap.size + 3) 116 2 (.slice a n c) n (((srcI LT IN).take n).flatMap iniC)))
  case atStart => exact ⟨0, none, 0, Nat.zero_le _, rfl, rfl, J0, World.ownsRow_nil _ _ _ _⟩
  case round =>
    clear J0
    obtain ⟨n, aa, cc, hn, hk, rfl, HJ, HW⟩ := hrel
    rcases Nat.lt_or_ge n LT.length with hlt | hge
    · obtain ⟨b, hb⟩ : ∃ b, LT[n]? = some b := ⟨_, List.getElem?_eq_getElem hlt⟩
      obtain ⟨vv, hvv⟩ : ∃ vv, IN[n]? = some vv := ⟨_, List.getElem?_eq_getElem (by have := HI.out; omega)⟩
      have HX : Hid (((srcI LT IN).take n).flatMap iniC ++ iniC ⟨(b.toNat : Int), vv⟩ = ((srcI LT IN).take (n + 1)).flatMap iniC) := by
        show _ = _
        rw [List.take_add_one, srcI_at hb hvv, List.flatMap_append]
        simp
      obtain ⟨g1, off1, ea1, hg1, hc1⟩ := (H1.out.on HJ.out.on).at hb
      have v0 : wr.cell? ⟨g1, off1 + n, none⟩ = some (.int .u8 (b.toNat : Nat)) := by have := hc1 0 _ rfl; rw [Nat.mul_one] at this; exact this
      obtain ⟨g2, off2, ea2, hg2, hc2⟩ := H2.out.at hvv
      have V1 : Hid (∀ W, On w W → W.cell? ⟨g2, off2 + n, none⟩ = some (.int .i64 vv)) := fun W k => by
        have := hc2 0 _ rfl
        rw [Nat.mul_one] at this
        exact (k.cell hg2).trans this
      subst ea1 ea2
      have HLM : Hid (n + 1 ≤ maxLen ∧ (n + 1) * 16 ≤ 140737488355328) := by have := HN4.out; show _ ∧ _; unfold maxLen; omega
      have HN : Hid (n ≤ 1000) := by have := HN4.out; show n ≤ 1000; omega
      have hm : n < m2 := by have := HM2.out; have := HI.out; omega
      have b1 : (n : Int) < (m2 : Int) := by omega
      have b2 : decide ((n : Int) < 0) = false := decide_eq_false (by omega)
      have b4 : (0 : Int) ≤ (n : Int) := by omega
      have hcv : IntKind.i64.wrap ((b.toNat : Nat) : Int) = ((b.toNat : Nat) : Int) := by rw [wrap_small]; omega; have := b.toNat_lt; omega
      have hov := up_one hlt HN4.out.1
      have hov2 := up_two hlt HN4.out.1
      have HJD : SrJ w wr.drew PCV [.string ⟨#[97]⟩, .slice aa n cc, .slice none 0 0, .int .i64 0, .slice none 0 0] := HJ.out.go (On.refl wr).drew
      have HWD : wr.drew.ownsRow (w.heap.size + 3) 116 2 (.slice aa n cc) n (((srcI LT IN).take n).flatMap iniC) := own_on HW.out (On.refl wr).drew
      clear hb hvv hc1 hc2 hg1 hg2 hm
      go_upto_region 5 with fail
      clear v0
      have SA : SrJ w wr.drew PCV [.string ⟨#[97]⟩, .slice aa n cc, .slice none 0 0, .int .i64 0, .slice none 0 0] := HJD
      refine region_fz (fun W => SrJ w W PCV [.string ⟨#[97]⟩, .slice aa n cc, .slice none 0 0, .int .i64 0, .slice none 0 0]) [13] 14 (by kernel_rfl) rfl ?_
      refine fzd_take 8 0 (v := ?_) rfl (by kernel_rfl) (by kernel_rfl) (by kernel_rfl) (by kernel_rfl) (fun _ _ _ h => h) rfl ?_ SA ?_
      rotate_left
      · intro W hW
        go_simp
        (try with_reducible rfl)
      simp only [Act.put, List.setIfInBounds_toArray, List.set_cons_zero, List.set_cons_succ]
      refine fzd_take 8 1 (v := ?_) rfl (by kernel_rfl) (by kernel_rfl) (by kernel_rfl) (by kernel_rfl) (fun _ _ _ h => h) rfl ?_ SA ?_
      rotate_left
      · intro W hW
        have t1 := hW.tb.at (i := 1) (v := .slice aa n cc) rfl
        have tl := hW.tb.lt
        go_simp
        (try with_reducible rfl)
      simp only [Act.put, List.setIfInBounds_toArray, List.set_cons_zero, List.set_cons_succ]
      refine fzd_take 8 2 (v := ?_) rfl (by kernel_rfl) (by kernel_rfl) (by kernel_rfl) (by kernel_rfl) (fun _ _ _ h => h) rfl ?_ SA ?_
      rotate_left
      · intro W hW
        go_simp
        (try with_reducible rfl)
      simp only [Act.put, List.setIfInBounds_toArray, List.set_cons_zero, List.set_cons_succ]
      refine fzd_take 8 3 (v := ?_) rfl (by kernel_rfl) (by kernel_rfl) (by kernel_rfl) (by kernel_rfl) (fun _ _ _ h => h) rfl ?_ SA ?_
      rotate_left
      · intro W hW
        go_simp
        (try with_reducible rfl)
      simp only [Act.put, List.setIfInBounds_toArray, List.set_cons_zero, List.set_cons_succ]
      refine fzd_take 8 4 (v := ?_) rfl (by kernel_rfl) (by kernel_rfl) (by kernel_rfl) (by kernel_rfl) (fun _ _ _ h => h) rfl ?_ SA ?_
      rotate_left
      · intro W hW
        go_simp
        (try with_reducible rfl)
      simp only [Act.put, List.setIfInBounds_toArray, List.set_cons_zero, List.set_cons_succ]
      refine fzd_take 8 5 (v := ?_) rfl (by kernel_rfl) (by kernel_rfl) (by kernel_rfl) (by kernel_rfl) (fun _ _ _ h => h) rfl ?_ SA ?_
      rotate_left
      · intro W hW
        have p1 := hW.pb.at (i := 1) (v := .slice (some ⟨g2, off2, none⟩) m2 c2) (by rw [HPC.out]; rfl)
        have pl := hW.pb.lt
        go_simp
        (try with_reducible rfl)
      simp only [Act.put, List.setIfInBounds_toArray, List.set_cons_zero, List.set_cons_succ]
      refine fzd_take 8 6 (v := ?_) rfl (by kernel_rfl) (by kernel_rfl) (by kernel_rfl) (by kernel_rfl) (fun _ _ _ h => h) rfl ?_ SA ?_
      rotate_left
      · intro W hW
        go_simp
        (try with_reducible rfl)
      simp only [Act.put, List.setIfInBounds_toArray, List.set_cons_zero, List.set_cons_succ]
      refine fzd_take 8 7 (v := ?_) rfl (by kernel_rfl) (by kernel_rfl) (by kernel_rfl) (by kernel_rfl) (fun _ _ _ h => h) rfl ?_ SA ?_
      rotate_left
      · intro W hW
        go_simp
        (try with_reducible rfl)
      simp only [Act.put, List.setIfInBounds_toArray, List.set_cons_zero, List.set_cons_succ]
      refine fzd_take 8 8 (v := ?_) rfl (by kernel_rfl) (by kernel_rfl) (by kernel_rfl) (by kernel_rfl) (fun _ _ _ h => h) rfl ?_ SA ?_
      rotate_left
      · intro W hW
        have v1 := V1.out W hW.on
        go_simp
        (try with_reducible rfl)
      simp only [Act.put, List.setIfInBounds_toArray, List.set_cons_zero, List.set_cons_succ]
      refine fzd_take 8 9 (v := ?_) rfl (by kernel_rfl) (by kernel_rfl) (by kernel_rfl) (by kernel_rfl) (fun _ _ _ h => h) rfl ?_ SA ?_
      rotate_left
      · intro W hW
        go_simp
        (try with_reducible rfl)
      simp only [Act.put, List.setIfInBounds_toArray, List.set_cons_zero, List.set_cons_succ]
      refine fz_one 10 rfl rfl (by kernel_rfl) (fun K hK => ?_)
      refine wp_bsI rfl rfl (fun wa ka ba => ?_)
      have SB : SrJ w wa PCV _ := SA.go ka
      have own4 := own_on HWD ka
      refine hK.out _ _ (fun _ => SB) ?_
      clear hK
      refine fz_one 11 rfl rfl (by kernel_rfl) (fun K hK => ?_)
      refine wp_append_own _ (.tmp 18) (.tmp 27) 63 rfl (w.heap.size + 3) 116 i0 (.agg #[.int .i64 0, .int .i64 0]) 2 16 Tryz.underlying63 hi0 hz0 hz1 hz2 rfl (by decide) (.slice aa n cc) n _ rfl own4 ⟨wr.drew.heap.size, 0, none⟩ 1 1 (iniC ⟨(b.toNat : Int), vv⟩) rfl rfl ba.news (one_ini _ _) HLM.out.1 HLM.out.2 SB.lt ?_
      intro v' w5 hown5 hg5 _
      obtain ⟨a', c', rfl⟩ := own_slice hown5
      have blk : ∀ g, (Value.slice aa n cc).ownBlock = some g → w.heap.size + 3 ≤ g := fun g hb => (own4.lt g hb).1
      have SC : SrJ w w5 PCV _ := SB.grown hg5 blk
      refine hK.out _ _ (fun _ => SC) ?_
      clear hK
      refine fzd_take 8 12 (v := ?_) rfl (by kernel_rfl) (by kernel_rfl) (by kernel_rfl) (by kernel_rfl) (fun _ _ _ h => h) rfl ?_ SC ?_
      rotate_left
      · intro W hW
        go_simp
        (try with_reducible rfl)
      simp only [Act.put, List.setIfInBounds_toArray, List.set_cons_zero, List.set_cons_succ]
      refine fz_one 13 rfl rfl (by kernel_rfl) (fun K hK => ?_)
      have f1 := SC.tb.at (i := 1) (v := .slice aa n cc) rfl
      have ff := SC.tb.bk.fr 1
      have fl := SC.tb.lt
      go_simp
      refine hK.out _ _ (fun hq => (hq (by simp)).elim) ?_
      clear hK f1 ff fl
      refine fz_done (by kernel_rfl) (NoPanic.normal ?_)
      rw [HX.out] at hown5
      have JX := SC.set 1 (.slice a' (n + 1) c')
      have WX := ownsRow_setCell_below hown5 (a := ⟨w.heap.size + 2, 1, none⟩) (Nat.lt_succ_self _) (.slice a' (n + 1) c')
      clear SA SB SC own4 hown5 hg5 blk ka ba HJD HWD
      go_wp2
      go_roundg (LT.length - (n + 1))
      case measure => clear hov hov2; omega
      case rel => exact ⟨n + 1, a', c', hlt, rfl, rfl, JX, WX⟩
    · obtain rfl : n = LT.length := by omega
      have HS := srcI_len LT IN HI.out
      have HW2 := HW.out
      rw [List.take_of_length_le (by rw [HS]; exact Nat.le_refl _)] at HW2
      have HWI : Hid (wr.ownsRow (w.heap.size + 3) 116 2 (.slice aa LT.length cc) LT.length ((srcI LT IN).flatMap iniC)) := HW2
      have p2 := HJ.out.pb.at (i := 2) (v := .slice a3 LL.length c3) (by rw [HPC.out]; rfl)
      have pl := HJ.out.pb.lt
      clear HW HW2 HS hk hge hn
      go_wp2_with fail
      clear p2 pl
      go_loopg [34] LL.length (fun gg s34 wq => ∃ (n : Nat) (a : Option Addr) (c : Nat), n ≤ LL.length ∧ gg = LL.length - n ∧ s34 = .int .i64 n ∧ Hid (SrJ w wq PCV [.string ⟨#[97]⟩, .slice aa LT.length cc, .slice a n c, .int .i64 0, .slice none 0 0]) ∧ Hid (wq.ownsRow (w.heap.size + 3) 116 2 (.slice aa LT.length cc) LT.length ((srcI LT IN).flatMap iniC)) ∧ Hid (Own2 insC 9 117 107 wq (w.heap.size + 3) (.slice a n c) ((LL.take n).map (letRow LT))))
      case atStart => exact ⟨0, none, 0, Nat.zero_le _, rfl, rfl, HJ, HWI, Own2.nil _ _ _ _ _ _⟩
      case round =>
        clear HJ HWI
        obtain ⟨n, a, c, hn, hk, rfl, HJ, HWI, HO2⟩ := hrel
        rcases Nat.lt_or_ge n LL.length with hlt | hge
        · obtain ⟨x, hx⟩ : ∃ x, LL[n]? = some x := ⟨_, List.getElem?_eq_getElem hlt⟩
          obtain ⟨gx, ox, rfl, hgx, ax, cx, v0, hxm, rx⟩ := (H3.out.on HJ.out.on).row hx
          obtain ⟨hx10, hxl⟩ := HF.out x (List.mem_of_getElem? hx)
          have hP := fun W (k : On wr W) => lettered_is LT x ax cx a1 c1 W (rx.on k) (H1.out.on (HJ.out.on.trans k)) hx10 hxl
          have HX : Hid ((LL.take n).map (letRow LT) ++ [letRow LT x] = (LL.take (n + 1)).map (letRow LT)) := by
            show _ = _
            rw [List.take_add_one, hx]
            simp
          have HPX : Hid ((letRow LT x).length = x.length) := by show _ = _; unfold letRow; rw [List.length_map]
          have HVN : Hid (((LL.take n).map (letRow LT)).length = n) := by show _ = _; rw [List.length_map, List.length_take]; omega
          have HLM : Hid (n + 1 ≤ maxLen ∧ (n + 1) * 24 ≤ 140737488355328) := by have := HN4.out; show _ ∧ _; unfold maxLen; omega
          have hov := up_one hlt HN4.out.2
          have hov2 := up_two hlt HN4.out.2
          have HJD : SrJ w wr.drew PCV [.string ⟨#[97]⟩, .slice aa LT.length cc, .slice a n c, .int .i64 0, .slice none 0 0] := HJ.out.go (On.refl wr).drew
          have HD : Hid (On wr wr.drew) := (On.refl wr).drew
          clear hx rx hx10 hxl
          go_upto_region 10 with fail
          clear v0
          have SA : SrJ w wr.drew PCV [.string ⟨#[97]⟩, .slice aa LT.length cc, .slice a n c, .int .i64 0, .slice none 0 0] := HJD
          refine region_fz (fun W => SrJ w W PCV [.string ⟨#[97]⟩, .slice aa LT.length cc, .slice a n c, .int .i64 0, .slice none 0 0]) [9] 10 (by kernel_rfl) rfl ?_
          refine fzd_take 8 0 (v := ?_) rfl (by kernel_rfl) (by kernel_rfl) (by kernel_rfl) (by kernel_rfl) (fun _ _ _ h => h) rfl ?_ SA ?_
          rotate_left
          · intro W hW
            go_simp
            (try with_reducible rfl)
          simp only [Act.put, List.setIfInBounds_toArray, List.set_cons_zero, List.set_cons_succ]
          refine fzd_take 8 1 (v := ?_) rfl (by kernel_rfl) (by kernel_rfl) (by kernel_rfl) (by kernel_rfl) (fun _ _ _ h => h) rfl ?_ SA ?_
          rotate_left
          · intro W hW
            have t1 := hW.tb.at (i := 2) (v := .slice a n c) rfl
            have tl := hW.tb.lt
            go_simp
            (try with_reducible rfl)
          simp only [Act.put, List.setIfInBounds_toArray, List.set_cons_zero, List.set_cons_succ]
          refine fzd_take 8 2 (v := ?_) rfl (by kernel_rfl) (by kernel_rfl) (by kernel_rfl) (by kernel_rfl) (fun _ _ _ h => h) rfl ?_ SA ?_
          rotate_left
          · intro W hW
            go_simp
            (try with_reducible rfl)
          simp only [Act.put, List.setIfInBounds_toArray, List.set_cons_zero, List.set_cons_succ]
          refine fzd_take 8 3 (v := ?_) rfl (by kernel_rfl) (by kernel_rfl) (by kernel_rfl) (by kernel_rfl) (fun _ _ _ h => h) rfl ?_ SA ?_
          rotate_left
          · intro W hW
            go_simp
            (try with_reducible rfl)
          simp only [Act.put, List.setIfInBounds_toArray, List.set_cons_zero, List.set_cons_succ]
          refine fzd_take 8 4 (v := ?_) rfl (by kernel_rfl) (by kernel_rfl) (by kernel_rfl) (by kernel_rfl) (fun _ _ _ h => h) rfl ?_ SA ?_
          rotate_left
          · intro W hW
            have p1 := hW.pb.at (i := 0) (v := .slice a1 LT.length c1) (by rw [HPC.out]; rfl)
            have pl := hW.pb.lt
            go_simp
            (try with_reducible rfl)
          simp only [Act.put, List.setIfInBounds_toArray, List.set_cons_zero, List.set_cons_succ]
          refine fz_one 5 rfl rfl (by kernel_rfl) (fun K hK => ?_)
          go_simp
          refine (hP _ (On.refl wr).drew).mono ?_
          rintro _ w4 ⟨au, cu, rfl, hu, k4⟩
          have SC : SrJ w w4 PCV _ := SA.go k4
          have IC := own_on (own_on HWI.out HD.out) k4
          have OC := (HO2.out.on HD.out).on k4
          refine hK.out _ _ (fun _ => SC) ?_
          clear hK
          refine fz_one 6 rfl rfl (by kernel_rfl) (fun K hK => ?_)
          refine wp_bsT rfl rfl (fun wa ka ba => ?_)
          have SD : SrJ w wa PCV _ := SC.go ka
          have ID := own_on IC ka
          obtain ⟨vs, hvl, hov', hin⟩ := OC.on ka
          rw [HVN.out] at hov' hvl
          have hu1 : wa.ownsRow (w.heap.size + 3) 107 9 (.slice au x.length cu) (letRow LT x).length ((letRow LT x).flatMap insC) := by
            rw [HPX.out]
            exact own_mono (own_on hu ka) (HJ.out.lt)
          clear hu IC OC
          refine hK.out _ _ (fun _ => SD) ?_
          clear hK
          refine fz_one 7 rfl rfl (by kernel_rfl) (fun K hK => ?_)
          refine wp_append_own _ (.tmp 39) (.tmp 44) 25 rfl (w.heap.size + 3) 117 j0 (.slice none 0 0) 1 24 Tryz.underlying25 hj0 jz0 jz1 jz2 rfl (by decide) (.slice a n c) n vs rfl hov' ⟨w4.heap.size, 0, none⟩ 1 1 [.slice au x.length cu] rfl rfl ba.news (one_slice _ _ _) HLM.out.1 HLM.out.2 SD.lt ?_
          intro v' w5 hown5 hg5 _
          obtain ⟨a', c', rfl⟩ := own_slice hown5
          have blk : ∀ g, (Value.slice a n c).ownBlock = some g → w.heap.size + 3 ≤ g := fun g hb => (hov'.lt g hb).1
          have SE : SrJ w w5 PCV _ := SD.grown hg5 blk
          have IE := own_far ID hov' ne_ini_thr hg5
          have WS := Own2.snoc (C := insC) (k := 9) (hvl.trans HVN.out.symm) (by rw [HVN.out]; exact hov') hin ne_thr hg5 (by rw [HVN.out]; exact hown5) hu1
          clear hu1 hov' hin hvl ID blk
          refine hK.out _ _ (fun _ => SE) ?_
          clear hK
          refine fzd_take 8 8 (v := ?_) rfl (by kernel_rfl) (by kernel_rfl) (by kernel_rfl) (by kernel_rfl) (fun _ _ _ h => h) rfl ?_ SE ?_
          rotate_left
          · intro W hW
            go_simp
            (try with_reducible rfl)
          simp only [Act.put, List.setIfInBounds_toArray, List.set_cons_zero, List.set_cons_succ]
          refine fz_one 9 rfl rfl (by kernel_rfl) (fun K hK => ?_)
          have f1 := SE.tb.at (i := 2) (v := .slice a n c) rfl
          have ff := SE.tb.bk.fr 2
          have fl := SE.tb.lt
          go_simp
          refine hK.out _ _ (fun hq => (hq (by simp)).elim) ?_
          clear hK f1 ff fl
          refine fz_done (by kernel_rfl) (NoPanic.normal ?_)
          rw [HX.out] at WS
          have JX := SE.set 2 (.slice a' (n + 1) c')
          have IX := ownsRow_setCell_below IE (a := ⟨w.heap.size + 2, 2, none⟩) (Nat.lt_succ_self _) (.slice a' (n + 1) c')
          have WX := WS.setB (N := w.heap.size + 2) (Nat.lt_succ_self _) 2 (.slice a' (n + 1) c')
          clear SA SC SD SE IE WS hown5 hg5 ka ba HJD hP
          go_wp2
          go_roundg (LL.length - (n + 1))
          case measure => clear hov hov2; omega
          case rel => exact ⟨n + 1, a', c', hlt, rfl, rfl, JX, IX, WX⟩
        · obtain rfl : n = LL.length := by omega
          have HO3 := HO2.out
          rw [List.take_length] at HO3
          clear hk hge hn
          go_wp2_with (first | (refine wpList_sto (T := 68) (cs := #[.string ⟨#[97]⟩, .slice aa LT.length cc, .slice a LL.length c, .int .i64 0, .slice none 0 0]) rfl rfl rfl rfl HJ.out.rb test_sz rfl (test_one _ _ _ _ _ _ _) ?_) | (refine wpList_load_mid rfl 68 _ rfl (w.heap.size + 2) 0 rfl [.string ⟨#[97]⟩, .slice aa LT.length cc, .slice a LL.length c, .int .i64 0, .slice none 0 0] _ HJ.out.tb.whole fields_test rfl (by exact test_sz) ?_))
          intro ws bs os
          go_wp2
          have hne : ∀ g, (Value.slice aa LT.length cc).ownBlock = some g → g ≠ w.heap.size + 1 := fun g e => by have := (HWI.out.lt g e).1; omega
          (try simp only [Exit.inBlock, Exit.then]); refine bodyPost_ret (results_cell_row rfl _ ws _ _ _ (0, 0) _ rfl bs fields_test rfl (by exact test_sz)) rfl ?_
          have IW := own_off os HWI.out (by omega)
          have OW := Own2.off os HO3 (by omega)
          refine ⟨_, rfl, ⟨aa, cc, a, c, none, 0, ?_, by show (⟨#[97]⟩ : ByteArray).size ≤ _; decide, ?_, ?_, Rd2.nil _ _ _⟩, os.on HJ.out.on (by omega)⟩
          · show Value.agg #[.string ⟨#[97]⟩, .slice aa LT.length cc, .slice a LL.length c, .int .i64 0, .slice none 0 0] = .agg #[.string ⟨#[97]⟩, .slice aa (srcI LT IN).length cc, .slice a (LL.map (letRow LT)).length c, .int .i64 0, .slice none 0 0]
            rw [srcI_len LT IN HI.out, List.length_map]
          · show Rd iniC 2 ws (.slice aa (srcI LT IN).length cc) (srcI LT IN)
            refine Rd.own (fun _ => rfl) (base := w.heap.size + 3) (e := 116) ?_
            rw [srcI_len LT IN HI.out]
            exact IW
          · show Rd2 insC 9 ws (.slice a (LL.map (letRow LT)).length c) (LL.map (letRow LT))
            rw [List.length_map]
            exact OW.rd (fun _ => rfl)
end Go.Proofs.YtplihlmejnohnaaGreatDoor
