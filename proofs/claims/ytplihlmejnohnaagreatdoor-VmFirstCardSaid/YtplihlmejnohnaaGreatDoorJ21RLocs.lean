/- A region that draws its order and has several operations at its end that write what it reads; a state with several ways on. -/
import Derived.Test.YtplihlmejnohnaaGreatDoorJ20BegW
import Derived.Test.YtplihlmejnohnaaGreatDoorJ03Gen0
import Derived.Test.YtplihlmejnohnaaGreatDoorJ14SmallP
import Derived.Test.YtplihlmejnohnaaGreatDoorJ16StepF
namespace Go.Proofs.YtplihlmejnohnaaGreatDoor
open Go.RowKit

section
variable {P : Program} {ops : Array Oper} {Q : Exit → Act → World → Prop} {md : Region.Mode} {S : World → Prop} {Z : List Nat}

/-- Whatever order is picked from here on, and S holds behind every operation but those of Z. -/
def wpFz (P : Program) (md : Region.Mode) (ops : Array Oper) (Q : Exit → Act → World → Prop) (S : World → Prop) (Z : List Nat) : Nat → Array Bool → Act → World → Prop
  | 0, listed, a, w => Region.ready md ops listed = [] ∧ Q .normal a w
  | n + 1, listed, a, w =>
    (Region.ready md ops listed = [] → Q .normal a w) ∧
    ∀ i ∈ Region.ready md ops listed, wpOp P ops Q i (fun a' w' => (i ∉ Z → S w') ∧ wpFz P md ops Q S Z n (listed.setIfInBounds i true) a' w') a w
theorem any_of_fz : ∀ (n : Nat) (listed : Array Bool) (a : Act) (w : World), wpFz P md ops Q S Z n listed a w → wpAny P md ops Q n listed a w
  | 0, _, _, _, h => h
  | n + 1, _, _, _, h => ⟨h.1, fun i hi => wpOp_mono (fun a' w' h' => any_of_fz n _ a' w' h'.2) (h.2 i hi)⟩
/-- Number z comes behind number i: it waits for it, or for one that waits for it and has not been. -/
def lateB (md : Region.Mode) (ops : Array Oper) (listed : Array Bool) (i z : Nat) : Bool :=
  waitsB md ops z i || (List.range ops.size).any fun m => waitsB md ops m i && (waitsB md ops z m && (listed.getD m true == false))
theorem late_no {listed : Array Bool} {i z : Nat} (h : lateB md ops listed i z = true) (hi : i ∈ Region.ready md ops listed) : z ∉ Region.ready md ops listed := by
  intro hz
  obtain ⟨_, oz, hoz, hall⟩ := mem_ready.1 hz
  unfold lateB at h
  simp only [Bool.or_eq_true, List.any_eq_true, List.mem_range, Bool.and_eq_true, beq_iff_eq] at h
  rcases h with h | ⟨m, hm, _, h2, h3⟩
  · obtain ⟨e, he, hb, heq⟩ := waits_spec h hoz
    exact ready_apart hi hz hoz he hb heq
  · obtain ⟨e, he, hb, heq⟩ := waits_spec h2 hoz
    have h1 : listed.getD m false = true := heq ▸ hall e he hb
    unfold Array.getD at h3 h1
    split at h3
    · rename_i hlt
      rw [dif_pos hlt] at h1
      exact absurd (h3.symm.trans h1) (by decide)
    · cases h3
theorem late_set {listed : Array Bool} {i j z : Nat} (h : lateB md ops listed i z = true) (hi : i ∈ Region.ready md ops listed) (hj : j ∈ Region.ready md ops listed) : lateB md ops (listed.setIfInBounds j true) i z = true := by
  unfold lateB at h ⊢
  simp only [Bool.or_eq_true, List.any_eq_true, List.mem_range, Bool.and_eq_true, beq_iff_eq] at h ⊢
  rcases h with h | ⟨m, hm, h1, h2, h3⟩
  · exact Or.inl h
  · refine Or.inr ⟨m, hm, h1, h2, ?_⟩
    have hne : j ≠ m := by
      rintro rfl
      obtain ⟨_, oj, hoj, _⟩ := mem_ready.1 hj
      obtain ⟨e, he, hb, heq⟩ := waits_spec h1 hoj
      exact ready_apart hi hj hoj he hb heq
    exact (getD_set_ne true hne).trans h3
theorem fz_first {i : Nat} {oi : Oper} {v : Value} (hi : ops[i]? = some oi) (hsel : ∀ (j : Nat) (o : Oper) cs b, ops[j]? = some o → o.op ≠ .select cs b)
    (hQ : ∀ c a w, Q (.panic c) (a.put oi.dst v) w → Q (.panic c) a w) :
    ∀ (n : Nat) (listed : Array Bool) (a : Act) (w : World), (∀ z ∈ Z, lateB md ops listed i z = true) → Free md ops i oi listed → i ∈ Region.ready md ops listed → YieldsIf P ops S oi v a → S w →
      wpFz P md ops Q S Z n (listed.setIfInBounds i true) (a.put oi.dst v) w → wpFz P md ops Q S Z (n + 1) listed a w
  | n, listed, a, w, hz, hF, hr, hy, hS, H => by
    refine ⟨fun h => absurd (h ▸ hr) (by simp), fun j hj => ?_⟩
    rcases Decidable.em (j = i) with rfl | hji
    · exact hy.wpOp hi hS ⟨fun _ => hS, H⟩
    obtain ⟨hun, oj, hoj, _⟩ := mem_ready.1 hj
    have hno : ∀ e ∈ oj.after, Region.binds md e = true → e.on ≠ i := fun e he hb => ready_apart hr hj hoj he hb
    have hjz : j ∉ Z := fun hm => late_no (hz j hm) hr hj
    match n, H with
    | 0, H => exact absurd (H.1 ▸ ready_mono hj hji) (by simp)
    | n + 1, H =>
      refine wpOp_mono (fun a' w' k => ⟨k.2.1, ?_⟩) (wpOp_putIf hoj (hF j oj hoj hji hun hno) (fun cs b => hsel i oi cs b hi) (fun cs b => hsel j oj cs b hoj) hQ hy (H.2 j (ready_mono hj hji)))
      exact fz_first hi hsel hQ n _ a' w' (fun z hm => late_set (hz z hm) hr hj) (hF.set hun) (ready_mono hr (Ne.symm hji)) k.1 (k.2.1 hjz) (Array.setIfInBounds_comm true true hji ▸ k.2.2)
theorem at_of_drop {l rest : List Oper} {i : Nat} {oi : Oper} (hi : l.drop i = oi :: rest) : l.toArray[i]? = some oi := by
  rw [List.getElem?_toArray]
  have := congrArg (·[0]?) hi
  simpa using this
theorem fz_take {l rest : List Oper} (i : Nat) {oi : Oper} {v : Value} {n : Nat} {listed : Array Bool} {a : Act} {w : World} (hi : l.drop i = oi :: rest)
    (hs : Region.noSelect l.toArray = true) (hf : Region.free md l.toArray listed i = true) (hr : (Region.ready md l.toArray listed).contains i = true) (hz : (Z.all fun z => lateB md l.toArray listed i z) = true)
    (hQ : ∀ c a w, Q (.panic c) (a.put oi.dst v) w → Q (.panic c) a w) (hg : oi.guard = none) (hy : ∀ w, S w → (execOp a.eval oi).run P w = .ok (.value v) w) (hS : S w)
    (h : wpFz P md l.toArray Q S Z n (listed.setIfInBounds i true) (a.put oi.dst v) w) : wpFz P md l.toArray Q S Z (n + 1) listed a w := by
  have hi' := at_of_drop hi
  exact fz_first hi' (Region.noSelect_spec hs) hQ n listed a w (fun z hm => List.all_eq_true.1 hz z hm) (Region.free_spec hi' hf) (by simpa using hr) (Or.inl ⟨by simp [Region.wanted, hg], hy⟩) hS h
theorem fz_one {l rest : List Oper} (i : Nat) {o : Oper} {n : Nat} {listed : Array Bool} {a : Act} {w : World} (hi : l.drop i = o :: rest) (hg : o.guard = none) (hr : Region.ready md l.toArray listed = [i])
    (h : ∀ K : Act → World → Prop, Hid (∀ a' w', (i ∉ Z → S w') → wpFz P md l.toArray Q S Z n (listed.setIfInBounds i true) a' w' → K a' w') → o.wp P a w K Q) : wpFz P md l.toArray Q S Z (n + 1) listed a w := by
  have hi' := at_of_drop hi
  refine ⟨fun h0 => (by rw [hr] at h0; cases h0), fun j hj => ?_⟩
  rw [hr] at hj
  obtain rfl : j = i := by simpa using hj
  unfold wpOp
  simp only [hi']
  rw [if_pos (by simp [Region.wanted, hg])]
  exact Or.inl (h _ (fun a' w' h1 h2 => ⟨h1, h2⟩))
theorem fz_two {l r1 r2 : List Oper} (i j : Nat) {oi oj : Oper} {n : Nat} {listed : Array Bool} {a : Act} {w : World} (hi : l.drop i = oi :: r1) (hj : l.drop j = oj :: r2) (hgi : oi.guard = none) (hgj : oj.guard = none) (hr : Region.ready md l.toArray listed = [i, j])
    (h1 : ∀ K : Act → World → Prop, Hid (∀ a' w', (i ∉ Z → S w') → wpFz P md l.toArray Q S Z n (listed.setIfInBounds i true) a' w' → K a' w') → oi.wp P a w K Q)
    (h2 : ∀ K : Act → World → Prop, Hid (∀ a' w', (j ∉ Z → S w') → wpFz P md l.toArray Q S Z n (listed.setIfInBounds j true) a' w' → K a' w') → oj.wp P a w K Q) : wpFz P md l.toArray Q S Z (n + 1) listed a w := by
  have hi' := at_of_drop hi
  have hj' := at_of_drop hj
  refine ⟨fun h0 => (by rw [hr] at h0; cases h0), fun q hq => ?_⟩
  rw [hr] at hq
  simp only [List.mem_cons, List.not_mem_nil, or_false] at hq
  rcases hq with rfl | rfl
  · unfold wpOp
    simp only [hi']
    rw [if_pos (by simp [Region.wanted, hgi])]
    exact Or.inl (h1 _ (fun a' w' x y => ⟨x, y⟩))
  · unfold wpOp
    simp only [hj']
    rw [if_pos (by simp [Region.wanted, hgj])]
    exact Or.inl (h2 _ (fun a' w' x y => ⟨x, y⟩))
theorem fz_three {l r1 r2 r3 : List Oper} (i j k : Nat) {oi oj ok : Oper} {n : Nat} {listed : Array Bool} {a : Act} {w : World} (hi : l.drop i = oi :: r1) (hj : l.drop j = oj :: r2) (hk : l.drop k = ok :: r3) (hgi : oi.guard = none) (hgj : oj.guard = none) (hgk : ok.guard = none) (hr : Region.ready md l.toArray listed = [i, j, k])
    (h1 : ∀ K : Act → World → Prop, Hid (∀ a' w', (i ∉ Z → S w') → wpFz P md l.toArray Q S Z n (listed.setIfInBounds i true) a' w' → K a' w') → oi.wp P a w K Q)
    (h2 : ∀ K : Act → World → Prop, Hid (∀ a' w', (j ∉ Z → S w') → wpFz P md l.toArray Q S Z n (listed.setIfInBounds j true) a' w' → K a' w') → oj.wp P a w K Q)
    (h3 : ∀ K : Act → World → Prop, Hid (∀ a' w', (k ∉ Z → S w') → wpFz P md l.toArray Q S Z n (listed.setIfInBounds k true) a' w' → K a' w') → ok.wp P a w K Q) : wpFz P md l.toArray Q S Z (n + 1) listed a w := by
  have hi' := at_of_drop hi
  have hj' := at_of_drop hj
  have hk' := at_of_drop hk
  refine ⟨fun h0 => (by rw [hr] at h0; cases h0), fun q hq => ?_⟩
  rw [hr] at hq
  simp only [List.mem_cons, List.not_mem_nil, or_false] at hq
  rcases hq with rfl | rfl | rfl
  · unfold wpOp
    simp only [hi']
    rw [if_pos (by simp [Region.wanted, hgi])]
    exact Or.inl (h1 _ (fun a' w' x y => ⟨x, y⟩))
  · unfold wpOp
    simp only [hj']
    rw [if_pos (by simp [Region.wanted, hgj])]
    exact Or.inl (h2 _ (fun a' w' x y => ⟨x, y⟩))
  · unfold wpOp
    simp only [hk']
    rw [if_pos (by simp [Region.wanted, hgk])]
    exact Or.inl (h3 _ (fun a' w' x y => ⟨x, y⟩))
theorem fz_done {n : Nat} {listed : Array Bool} {a : Act} {w : World} (hr : Region.ready md ops listed = []) (h : Q .normal a w) : wpFz P md ops Q S Z n listed a w := by
  cases n with
  | zero => exact ⟨hr, h⟩
  | succ n => exact ⟨fun _ => h, by rw [hr]; simp⟩
theorem region_fz (S : World → Prop) (Z : List Nat) (k : Nat) {l : List Oper} {id : Nat} {a : Act} {w : World} (hm : P.follows .mixedOrders = true) (hk : l.length = k)
    (h : wpFz P .any l.toArray (NoPanic Q) S Z k (Array.replicate k false) a w.drew) : (Code.region id l.toArray true).wp P Q a w := by
  subst hk
  exact wp_region_noPanic (wp_region_any hm (any_of_fz _ _ _ _ h))
end
end Go.Proofs.YtplihlmejnohnaaGreatDoor

namespace Go.Proofs.YtplihlmejnohnaaGreatDoor
open Go.RowKit

def boolsL (f : Nat → Bool) : List Value := (List.range 256).map (fun i => Value.bool (f i))
def boolsA (f : Nat → Bool) : Array Value := (boolsL f).toArray
def upd (f : Nat → Bool) (i : Nat) : Nat → Bool := fun j => if j = i then true else f j
def idxL (l : Int) : Nat := (l % 256).toNat
def markI (L : List Int) (f : Nat → Bool) : Nat → Bool := L.foldl (fun f l => upd f (idxL l)) f
def insLs (L : List InsT) : List Int := L.map InsT.l
def atmLs (L : List AtomT) : List Int := L.map AtomT.l
/-- All the letters that a test names. -/
def allLs (t : TestT) : List Int := t.ini.map InitT.l ++ (t.thr.flatMap insLs ++ (t.cond.any.flatMap atmLs ++ []))
/-- Those letters below c that are there. -/
def outTo (F : Nat → Bool) (c : Nat) : List UInt8 := ((List.range (c - 97)).filter (fun i => F (97 + i))).map (fun i => UInt8.ofNat (97 + i))
theorem zero_bools : Tryz.zeroCells138 = boolsA (fun _ => false) := by kernel_rfl
theorem lowB (l : Int) : bits .and .i64 l 255 = (idxL l : Int) := by
  obtain ⟨k, h, e, g⟩ := i64_low l 8 255 (by decide) (by decide)
  have g' : (k : Int) = l % 256 := g
  rw [e]
  unfold idxL
  omega
theorem idxL_lt (l : Int) : idxL l < 256 := by unfold idxL; omega
theorem bools_at (f : Nat → Bool) {i : Nat} (h : i < 256) : (boolsA f)[i]? = some (.bool (f i)) := by
  unfold boolsA boolsL
  rw [List.getElem?_toArray, List.getElem?_map, List.getElem?_range h]
  rfl
theorem bools_set (f : Nat → Bool) (i : Nat) : ((boolsL f).set i (.bool true)).toArray = boolsA (upd f i) := by
  unfold boolsA boolsL
  congr 1
  apply List.ext_getElem?
  intro j
  rw [List.getElem?_set, List.getElem?_map, List.getElem?_map]
  by_cases hij : i = j
  · subst hij
    rw [if_pos rfl]
    by_cases hj : i < 256
    · rw [if_pos (by simpa using hj), List.getElem?_range hj]
      simp [upd]
    · rw [if_neg (by simpa using hj), List.getElem?_eq_none (by simpa using hj)]
      rfl
  · rw [if_neg hij]
    by_cases hj : j < 256
    · rw [List.getElem?_range hj]
      have : ¬ j = i := fun h => hij h.symm
      simp [upd, this]
    · rw [List.getElem?_eq_none (by simpa using hj)]
      rfl
theorem Bk.mark {w : World} {N : Nat} {f : Nat → Bool} (h : Bk w N (boolsA f)) (i : Nat) : Bk (w.setCell ⟨N, i, none⟩ (.bool true)) N (boolsA (upd f i)) := by
  rw [← bools_set]
  exact Bk.put h i _
theorem outTo_step (F : Nat → Bool) {c : Nat} (h : 97 ≤ c) : outTo F (c + 1) = if F c then outTo F c ++ [UInt8.ofNat c] else outTo F c := by
  unfold outTo
  rw [show c + 1 - 97 = (c - 97) + 1 by omega, List.range_succ, List.filter_append, List.map_append]
  have e : 97 + (c - 97) = c := by omega
  cases hF : F c with
  | true =>
    rw [List.filter_cons_of_pos (by rw [e]; exact hF), if_pos rfl]
    show _ ++ [UInt8.ofNat (97 + (c - 97))] = _
    rw [e]
  | false =>
    rw [List.filter_cons_of_neg (by rw [e, hF]; decide)]
    simp
theorem outTo_len (F : Nat → Bool) (c : Nat) : (outTo F c).length ≤ c - 97 := by
  unfold outTo
  rw [List.length_map]
  have := List.length_filter_le (fun i => F (97 + i)) (List.range (c - 97))
  simpa using this
set_option maxHeartbeats 16000000 in
set_option maxRecDepth 8000 in
theorem rlocs_is (t : TestT) (v : Value) (w : World) (h : TestRd w v t) :
    Calls Tryz.prog 52 #[v] w fun e w' => ∃ a c, e = .returned (.slice a (outTo (markI (allLs t) (fun _ => false)) 123).length c) ∧ w'.ownsRow w.heap.size 5 1 (.slice a (outTo (markI (allLs t) (fun _ => false)) 123).length c) (outTo (markI (allLs t) (fun _ => false)) 123).length ((outTo (markI (allLs t) (fun _ => false)) 123).map byteV) ∧ On w w' := by
  obtain ⟨i0, hi, hz0, hz1, hz2⟩ := info_parts infoByte
  obtain ⟨a1, c1, a2, c2, a3, c3, rfl, hnm, r1, r2, r3⟩ := h.ex
  clear h hnm
  obtain ⟨_, _, _, _, hm1⟩ := r1.slice
  obtain ⟨_, _, _, _, hm2⟩ := r2.slice
  obtain ⟨_, _, _, _, hm3⟩ := r3.slice
  have R1 : Hid (Rd iniC 2 w (.slice a1 t.ini.length c1) t.ini) := r1
  have R2 : Hid (Rd2 insC 9 w (.slice a2 t.thr.length c2) t.thr) := r2
  have R3 : Hid (Rd2 atomC 4 w (.slice a3 t.cond.any.length c3) t.cond.any) := r3
  obtain ⟨F, hF⟩ : ∃ F, F = markI (allLs t) (fun _ => false) := ⟨_, rfl⟩
  rw [← hF]
  have HF : Hid (F = markI ((t.ini.drop 0).map InitT.l ++ (t.thr.flatMap insLs ++ (t.cond.any.flatMap atmLs ++ []))) (fun _ => false)) := hF
  clear hF r1 r2 r3
  generalize t.name = nm
  generalize t.cond.k = kk
  generalize t.ini = INI at *
  generalize t.thr = THR at *
  generalize t.cond.any = ANY at *
  have bt : ∀ cs T B, Bk ((w.alloc (.cells cs T)).alloc B) w.heap.size cs := fun cs T B => (Bk.new w cs T).alloc B
  have bb : ∀ A T, Bk ((w.alloc A).alloc (.cells Tryz.zeroCells138 T)) (w.heap.size + 1) (boolsA (fun _ => false)) := fun A T => by have := Bk.new (w.alloc A) Tryz.zeroCells138 T; rw [World.size_alloc, zero_bools] at this; rw [zero_bools]; exact this
  go_enter Tryz.func52, Tryz.ntmps52
  go_wp2
  go_loopg [4] INI.length (fun gg s4 wq => ∃ (n : Nat) (f : Nat → Bool), n ≤ INI.length ∧ gg = INI.length - n ∧ s4 = .int .i64 n ∧ Hid (On w wq) ∧ Bk wq w.heap.size #[.string nm, .slice a1 INI.length c1, .slice a2 THR.length c2, .int .i64 kk, .slice a3 ANY.length c3] ∧ Bk wq (w.heap.size + 1) (boolsA f) ∧ Hid (F = markI ((INI.drop n).map InitT.l ++ (THR.flatMap insLs ++ (ANY.flatMap atmLs ++ []))) f))
  case atStart => exact ⟨0, _, Nat.zero_le _, rfl, rfl, ((On.refl w).alloc _).alloc _, bt _ _ _, bb _ _, HF⟩
  case round =>
    clear HF bt bb
    obtain ⟨n, f, hn, hk, rfl, HO, TB, FB, HF⟩ := hrel
    have t1 := TB.at (i := 1) rfl
    have tl := TB.lt
    have fl := FB.lt
    rcases Nat.lt_or_ge n INI.length with hlt | hge
    · obtain ⟨x, hx⟩ : ∃ x, INI[n]? = some x := ⟨_, List.getElem?_eq_getElem hlt⟩
      obtain ⟨g, off, rfl, hg, hcell⟩ := (R1.out.on HO.out).at hx
      have q0 : wr.cell? ⟨g, off + n * 2, none⟩ = _ := hcell 0 _ rfl
      have ea := lowB x.l
      have el := idxL_lt x.l
      have hc := FB.at (bools_at f el)
      have hfz := FB.fr (idxL x.l)
      have HJ : Hid (F = markI ((INI.drop (n + 1)).map InitT.l ++ (THR.flatMap insLs ++ (ANY.flatMap atmLs ++ []))) (upd f (idxL x.l))) := by
        show F = _
        rw [HF.out, drop_at hx]; rfl
      clear HF hcell hx
      generalize idxL x.l = k at *
      go_wp2
      go_roundg (INI.length - (n + 1))
      case measure => omega
      case rel => exact ⟨n + 1, _, by omega, rfl, by go_num, HO.out.setNew (by omega) _, TB.far (by omega) _ _, FB.mark k, HJ⟩
    · obtain rfl : n = INI.length := by omega
      have HG : Hid (F = markI ((THR.drop 0).flatMap insLs ++ (ANY.flatMap atmLs ++ [])) f) := by
        show F = _
        rw [HF.out, List.drop_of_length_le hge]; rfl
      clear HF
      go_wp2
      clear t1
      go_loopg [5] THR.length (fun gg s5 wq => ∃ (n : Nat) (f : Nat → Bool), n ≤ THR.length ∧ gg = THR.length - n ∧ s5 = .int .i64 n ∧ Hid (On w wq) ∧ Bk wq w.heap.size #[.string nm, .slice a1 INI.length c1, .slice a2 THR.length c2, .int .i64 kk, .slice a3 ANY.length c3] ∧ Bk wq (w.heap.size + 1) (boolsA f) ∧ Hid (F = markI ((THR.drop n).flatMap insLs ++ (ANY.flatMap atmLs ++ [])) f))
      case atStart => exact ⟨0, f, Nat.zero_le _, rfl, rfl, HO, TB, FB, HG⟩
      case round =>
        clear HG HO TB FB tl fl hge hn hk
        obtain ⟨n, f, hn, hk, rfl, HO, TB, FB, HF⟩ := hrel
        obtain ⟨V, hV⟩ : ∃ V, V = wr := ⟨_, rfl⟩
        subst hV
        have t2 := TB.at (i := 2) rfl
        have tl := TB.lt
        rcases Nat.lt_or_ge n THR.length with hlt | hge
        · obtain ⟨x, hx⟩ : ∃ x, THR[n]? = some x := ⟨_, List.getElem?_eq_getElem hlt⟩
          have HI : Hid (F = markI (insLs (x.drop 0) ++ ((THR.drop (n + 1)).flatMap insLs ++ (ANY.flatMap atmLs ++ []))) f) := by
            show F = _
            rw [HF.out, drop_at hx, List.flatMap_cons, List.append_assoc]; rfl
          have HX : Hid (THR[n]? = some x) := hx
          clear HF hx
          go_wp2
          clear t2
          go_loopg [6] x.length (fun gg s6 wq => ∃ (m : Nat) (f : Nat → Bool), m ≤ x.length ∧ gg = x.length - m ∧ s6 = .int .i64 m ∧ Hid (On w wq) ∧ Bk wq w.heap.size #[.string nm, .slice a1 INI.length c1, .slice a2 THR.length c2, .int .i64 kk, .slice a3 ANY.length c3] ∧ Bk wq (w.heap.size + 1) (boolsA f) ∧ Hid (F = markI (insLs (x.drop m) ++ ((THR.drop (n + 1)).flatMap insLs ++ (ANY.flatMap atmLs ++ []))) f))
          case atStart => exact ⟨0, f, Nat.zero_le _, rfl, rfl, HO, TB, FB, HI⟩
          case round =>
            clear HI HO TB FB tl
            obtain ⟨m, f, hm, hkm, rfl, HO, TB, FB, HI⟩ := hrel
            have t2 := TB.at (i := 2) rfl
            have tl := TB.lt
            have fl := FB.lt
            obtain ⟨g, off, rfl, hg, ax, cx, v0, hxm, rx⟩ := (R2.out.on HO.out).row HX.out
            rcases Nat.lt_or_ge m x.length with hlm | hgm
            · obtain ⟨y, hy⟩ : ∃ y, x[m]? = some y := ⟨_, List.getElem?_eq_getElem hlm⟩
              obtain ⟨g2, off2, rfl, hg2, hcell⟩ := rx.at hy
              have q2 : wr.cell? ⟨g2, off2 + m * 9 + 2, none⟩ = _ := hcell 2 _ rfl
              have ea := lowB y.l
              have el := idxL_lt y.l
              have hc := FB.at (bools_at f el)
              have hfz := FB.fr (idxL y.l)
              have HJ : Hid (F = markI (insLs (x.drop (m + 1)) ++ ((THR.drop (n + 1)).flatMap insLs ++ (ANY.flatMap atmLs ++ []))) (upd f (idxL y.l))) := by
                show F = _
                rw [HI.out, drop_at hy]; rfl
              clear HI hcell hy rx
              generalize idxL y.l = k at *
              go_wp2
              go_roundg (x.length - (m + 1))
              case measure => omega
              case rel => exact ⟨m + 1, _, by omega, rfl, by go_num, HO.out.setNew (by omega) _, TB.far (by omega) _ _, FB.mark k, HJ⟩
            · have HJ : Hid (F = markI ((THR.drop (n + 1)).flatMap insLs ++ (ANY.flatMap atmLs ++ [])) f) := by
                show F = _
                rw [HI.out, List.drop_of_length_le hgm]; rfl
              clear HI rx
              go_wp2
              go_roundg (THR.length - (n + 1))
              case measure => omega
              case rel => exact ⟨n + 1, f, by omega, rfl, by go_num, HO, TB, FB, HJ⟩
        · obtain rfl : n = THR.length := by omega
          have HG : Hid (F = markI ((ANY.drop 0).flatMap atmLs ++ []) f) := by
            show F = _
            rw [HF.out, List.drop_of_length_le hge]; rfl
          clear HF
          go_wp2
          clear t2
          go_loopg [7] ANY.length (fun gg s7 wq => ∃ (n : Nat) (f : Nat → Bool), n ≤ ANY.length ∧ gg = ANY.length - n ∧ s7 = .int .i64 n ∧ Hid (On w wq) ∧ Bk wq w.heap.size #[.string nm, .slice a1 INI.length c1, .slice a2 THR.length c2, .int .i64 kk, .slice a3 ANY.length c3] ∧ Bk wq (w.heap.size + 1) (boolsA f) ∧ Hid (F = markI ((ANY.drop n).flatMap atmLs ++ []) f))
          case atStart => exact ⟨0, f, Nat.zero_le _, rfl, rfl, HO, TB, FB, HG⟩
          case round =>
            clear HG HO TB FB tl hge hn hk
            obtain ⟨n, f, hn, hk, rfl, HO, TB, FB, HF⟩ := hrel
            obtain ⟨V2, hV2⟩ : ∃ V, V = wr := ⟨_, rfl⟩
            subst hV2
            have t4 := TB.at (i := 4) rfl
            have tl := TB.lt
            rcases Nat.lt_or_ge n ANY.length with hlt | hge
            · obtain ⟨x, hx⟩ : ∃ x, ANY[n]? = some x := ⟨_, List.getElem?_eq_getElem hlt⟩
              have HI : Hid (F = markI (atmLs (x.drop 0) ++ ((ANY.drop (n + 1)).flatMap atmLs ++ [])) f) := by
                show F = _
                rw [HF.out, drop_at hx, List.flatMap_cons, List.append_assoc]; rfl
              have HX : Hid (ANY[n]? = some x) := hx
              clear HF hx
              go_wp2
              clear t4
              go_loopg [8] x.length (fun gg s8 wq => ∃ (m : Nat) (f : Nat → Bool), m ≤ x.length ∧ gg = x.length - m ∧ s8 = .int .i64 m ∧ Hid (On w wq) ∧ Bk wq w.heap.size #[.string nm, .slice a1 INI.length c1, .slice a2 THR.length c2, .int .i64 kk, .slice a3 ANY.length c3] ∧ Bk wq (w.heap.size + 1) (boolsA f) ∧ Hid (F = markI (atmLs (x.drop m) ++ ((ANY.drop (n + 1)).flatMap atmLs ++ [])) f))
              case atStart => exact ⟨0, f, Nat.zero_le _, rfl, rfl, HO, TB, FB, HI⟩
              case round =>
                clear HI HO TB FB tl
                obtain ⟨m, f, hm, hkm, rfl, HO, TB, FB, HI⟩ := hrel
                have t4 := TB.at (i := 4) rfl
                have tl := TB.lt
                have fl := FB.lt
                obtain ⟨g, off, rfl, hg, ax, cx, v0, hxm, rx⟩ := (R3.out.on HO.out).row HX.out
                rcases Nat.lt_or_ge m x.length with hlm | hgm
                · obtain ⟨y, hy⟩ : ∃ y, x[m]? = some y := ⟨_, List.getElem?_eq_getElem hlm⟩
                  obtain ⟨g2, off2, rfl, hg2, hcell⟩ := rx.at hy
                  have q2 : wr.cell? ⟨g2, off2 + m * 4 + 2, none⟩ = _ := hcell 2 _ rfl
                  have ea := lowB y.l
                  have el := idxL_lt y.l
                  have hc := FB.at (bools_at f el)
                  have hfz := FB.fr (idxL y.l)
                  have HJ : Hid (F = markI (atmLs (x.drop (m + 1)) ++ ((ANY.drop (n + 1)).flatMap atmLs ++ [])) (upd f (idxL y.l))) := by
                    show F = _
                    rw [HI.out, drop_at hy]; rfl
                  clear HI hcell hy rx
                  generalize idxL y.l = k at *
                  go_wp2
                  go_roundg (x.length - (m + 1))
                  case measure => omega
                  case rel => exact ⟨m + 1, _, by omega, rfl, by go_num, HO.out.setNew (by omega) _, TB.far (by omega) _ _, FB.mark k, HJ⟩
                · have HJ : Hid (F = markI ((ANY.drop (n + 1)).flatMap atmLs ++ []) f) := by
                    show F = _
                    rw [HI.out, List.drop_of_length_le hgm]; rfl
                  clear HI rx
                  go_wp2
                  go_roundg (ANY.length - (n + 1))
                  case measure => omega
                  case rel => exact ⟨n + 1, f, by omega, rfl, by go_num, HO, TB, FB, HJ⟩
            · obtain rfl : n = ANY.length := by omega
              obtain rfl : F = f := by rw [HF.out, List.drop_of_length_le hge]; rfl
              clear HF
              go_wp2
              clear t4
              clear tl TB
              go_loopg [9, 10] 26 (fun gg s9 s10 wq => ∃ c : Nat, 97 ≤ c ∧ c ≤ 123 ∧ gg = 123 - c ∧ s10 = .int .i32 c ∧ Hid (On w wq) ∧ Bk wq (w.heap.size + 1) (boolsA F) ∧ wq.ownsRow (w.heap.size + 1 + 1) 5 1 s9 (outTo F c).length ((outTo F c).map byteV))
              case atStart => exact ⟨97, by omega, by omega, rfl, rfl, HO, FB, World.ownsRow_nil _ _ _ _⟩
              case round =>
                clear FB HO
                obtain ⟨c, hc0, hc1, hgc, rfl, HO, FB, hown⟩ := hrel
                have fl := FB.lt
                have hlen := outTo_len F c
                rcases Nat.lt_or_ge c 123 with hlc | hgc2
                · have hcc := FB.at (bools_at F (show c < 256 by omega))
                  cases hF : F c with
                  | true =>
                    rw [hF] at hcc
                    have hst := outTo_step F hc0
                    rw [hF] at hst
                    simp only [if_true] at hst
                    obtain ⟨b, hb, hbv⟩ : ∃ b : UInt8, Hid (b = UInt8.ofNat c) ∧ (c : Int) = (b.toNat : Int) := ⟨_, rfl, by rw [UInt8.toNat_ofNat']; omega⟩
                    have hb2 : IntKind.u8.wrap (c : Int) = (b.toNat : Int) := by rw [IntKind.wrap_u8]; omega
                    rw [← hb.out] at hst
                    have HST : Hid (outTo F (c + 1) = outTo F c ++ [b]) := hst
                    have hlt' : ∀ g, u9.ownBlock = some g → w.heap.size + 1 + 1 ≤ g := fun g hg => (hown.lt g hg).1
                    clear hst hbv
                    go_wp2_with (at_builtin; refine wpList_append_own _ rfl _ _ 23 rfl (w.heap.size + 1 + 1) 5 i0 (.int .u8 0) 1 1 Tryz.underlying23 hi hz0 hz1 hz2 rfl (by decide) _ _ _ rfl (hown.alloc _) ⟨wr.heap.size, 0, none⟩ 1 1 [byteV b] rfl rfl ?c1 ?c2 ?c3 ?c4 ?c5 ?_)
                    case c1 =>
                      intro j u hu
                      rw [new_cell]
                      exact hu
                    case c2 =>
                      intro u hu
                      simp only [List.mem_cons, List.not_mem_nil, or_false] at hu
                      subst hu
                      rfl
                    case c3 => unfold maxLen; omega
                    case c4 => omega
                    case c5 => simp only [World.size_alloc]; omega
                    intro v' w4 hown4 hg4 _
                    have O4 : Hid (On w w4) := (HO.out.alloc _).grown hg4 (fun g hg => by have := hlt' g hg; omega)
                    have F4 : Bk w4 (w.heap.size + 1) _ := (FB.alloc _).grown hg4 (by omega) hlt'
                    have W4 : Hid (w4.ownsRow (w.heap.size + 1 + 1) 5 1 v' (outTo F (c + 1)).length ((outTo F (c + 1)).map byteV)) := by
                      show World.ownsRow _ _ _ _ _ _ _
                      rw [HST.out]
                      simpa using hown4
                    clear hown4 hg4
                    go_wp2
                    go_roundg (123 - (c + 1))
                    case measure => omega
                    case rel => exact ⟨c + 1, by omega, by omega, rfl, by go_num, O4, F4, W4.out⟩
                  | false =>
                    rw [hF] at hcc
                    have hst := outTo_step F hc0
                    rw [hF] at hst
                    simp only [Bool.false_eq_true, if_false] at hst
                    have W4 : Hid (wr.ownsRow (w.heap.size + 1 + 1) 5 1 u9 (outTo F (c + 1)).length ((outTo F (c + 1)).map byteV)) := by
                      show World.ownsRow _ _ _ _ _ _ _
                      rw [hst]
                      exact hown
                    clear hst
                    go_wp2
                    go_roundg (123 - (c + 1))
                    case measure => omega
                    case rel => exact ⟨c + 1, by omega, by omega, rfl, by go_num, HO, FB, W4.out⟩
                · obtain rfl : c = 123 := by omega
                  obtain ⟨ar, cr, rfl⟩ := own_slice hown
                  go_wp2
                  go_ret
                  exact ⟨ar, cr, rfl, own_mono hown (by omega), HO.out⟩
end Go.Proofs.YtplihlmejnohnaaGreatDoor
