/- The numbers of a candidate are numbers of 64 bits: what is read was written, and what is written is reckoned out of what was read ahead of it. In plain Lean. -/
import Derived.Test.YtioiabfheeglgaaGreatDoorJ41AcyP
import Derived.Test.YtioiabfheeglgaaGreatDoorJ42SmB
import Derived.Test.YtioiabfheeglgaaGreatDoorJ44OfOk
import Derived.OpenShut
import Derived.Test.YtioiabfheeglgaaGreatDoorJ00Trees
namespace Go.Proofs.YtioiabfheeglgaaGreatDoor
open Go.RowKit

theorem bd_zero : B64 0 := ⟨by omega, by omega⟩
theorem b64_wf {n : Int} (h : (Lit.int .i64 n).wf = true) : B64 n := by
 have e1 : IntKind.i64.min = -9223372036854775808 := rfl
 have e2 : IntKind.i64.max = 9223372036854775807 := rfl
 simp [Lit.wf, e1, e2] at h
 exact h
theorem b64_b2i (b : Bool) : B64 (b2i b) := by
 unfold b2i
 split
 ·
  exact ⟨by omega, by omega⟩
 ·
  exact bd_zero
theorem b64_shift {a : Int} (h : B64 a) (k : Nat) : B64 (a / 2 ^ k) := by
 have hp : (1 : Int) ≤ 2 ^ k := by
  have : 0 < (2 : Int) ^ k := Int.pow_pos (by omega)
  omega
 obtain ⟨h0, h1⟩ := h
 constructor
 ·
  rw [Int.le_ediv_iff_mul_le (by omega)]
  refine Int.le_trans ?_ h0
  have : (-9223372036854775808 : Int) * 2 ^ k ≤ -9223372036854775808 * 1 := Int.mul_le_mul_of_nonpos_left (by omega) hp
  omega
 ·
  by_cases hn : 0 ≤ a
  ·
   exact Int.le_trans (Int.ediv_le_self _ hn) h1
  ·
   have : a / 2 ^ k < 0 := Int.ediv_neg_of_neg_of_pos (by omega) (by omega)
   omega
theorem b64_do (op : Int) {a : Int} (b : Int) (ha : B64 a) : B64 (doV op a b) := by
 have w : ∀ n : Int, B64 (wrap64 n) := fun n => b64_wf (wrap64_wf n)
 have q : ∀ o x y, B64 (bits o .i64 x y) := fun o x y => b64_wf (wf_bits o .i64 x y)
 unfold doV
 repeat' split
 all_goals first | exact w _ | exact q _ _ _ | exact b64_shift ha _ | exact b64_b2i _ | exact bd_zero
/-- A thread's registers are numbers of 64 bits. -/
def LB (l : LocT) : Prop := B64 l.r0 ∧ B64 l.r1 ∧ B64 l.r2 ∧ B64 l.r3
theorem lb_val {o : Opd} {l : LocT} (h : LB l) (ho : B64 o.v) : B64 (valOf o l) := by
 unfold valOf
 split
 ·
  unfold regAt
  obtain ⟨h0, h1, h2, h3⟩ := h
  repeat' split
  ·
   exact h0
  ·
   exact h1
  ·
   exact h2
  ·
   exact h3
 ·
  exact ho
theorem lb_with {l : LocT} (h : LB l) (r : Int) {v : Int} (hv : B64 v) : LB (withR l r v) := by
 obtain ⟨h0, h1, h2, h3⟩ := h
 unfold withR setR
 repeat' split
 ·
  exact ⟨hv, h1, h2, h3⟩
 ·
  exact ⟨h0, hv, h2, h3⟩
 ·
  exact ⟨h0, h1, hv, h3⟩
 ·
  exact ⟨h0, h1, h2, hv⟩
 ·
  exact ⟨h0, h1, h2, h3⟩
def InsB (L : List InsT) : Prop := ∀ y ∈ L, B64 y.a.v ∧ B64 y.b.v
theorem lb_settle {L : List InsT} (hL : InsB L) : ∀ (n : Nat) (l : LocT), LB l → LB (settleN n L l)
 | 0, _, h => h
 | n + 1, l, h => by
  rw [settleN]
  cases hi : L[l.pc.toNat]? with
  | none => exact h
  | some x =>
   have hx := hL x (List.mem_of_getElem? hi)
   simp only
   split
   ·
    refine lb_settle hL n _ ?_
    show LB (withR l x.r (resOf x l))
    refine lb_with h _ ?_
    unfold resOf
    split
    ·
     exact lb_val h hx.1
    ·
     exact b64_do _ _ (lb_val h hx.1)
   ·
    split
    ·
     exact lb_settle hL n (pcTo l _) h
    ·
     exact h
theorem lb_start {L : List InsT} (hL : InsB L) : LB (startP L) := lb_settle hL _ _ ⟨bd_zero, bd_zero, bd_zero, bd_zero⟩
theorem lb_after {L : List InsT} (hL : InsB L) {l : LocT} (h : LB l) {v : Int} (hv : B64 v) : LB (afterP L l v) := by
 unfold afterP
 split
 ·
  exact h
 ·
  rename_i x _
  refine lb_settle hL _ _ ?_
  unfold stepTo
  split
  ·
   exact lb_with h _ hv
  ·
   exact h
theorem next_mem {L : List InsT} {l : LocT} {x : InsT} (h : nextP L l = some x) : x ∈ L := by
 unfold nextP at h
 split at h
 ·
  split at h
  ·
   rename_i y hy
   split at h
   ·
    rw [← Option.some.inj h]; exact List.mem_of_getElem? hy
   ·
    cases h
  ·
   cases h
 ·
  cases h
theorem done_w {x : InsT} {l : LocT} (v : Int) (h : LB l) (hx : B64 x.a.v ∧ B64 x.b.v) : B64 (doneP x l v).w := by
 unfold doneP swapP
 repeat' split
 all_goals first | exact bd_zero | exact lb_val h hx.1 | exact lb_val h hx.2
theorem unf_b {L : List InsT} (hL : InsB L) : ∀ (n : Nat) (t : Int) (l : LocT) (i : Nat) (rs : List Int), LB l →
  (∀ (p : Nat) e, (unfN n L t l i rs).1[p]? = some e → (∀ (q : Nat) f, q ≤ p → (unfN n L t l i rs).1[q]? = some f → B64 f.r) → B64 e.w) ∧ ((∀ e ∈ (unfN n L t l i rs).1, B64 e.r) → LB (unfN n L t l i rs).2.1)
 | 0, _, _, _, _, h => ⟨fun p e hp => by simp [unfN] at hp, fun _ => h⟩
 | n + 1, t, l, i, rs, h => by
  cases hx : nextP L l with
  | none =>
   rw [unf_none hx]
   exact ⟨fun p e hp => by simp at hp, fun _ => h⟩
  | some x =>
   cases hv : valP x rs with
   | none =>
    rw [unf_more hx hv]
    exact ⟨fun p e hp => by simp at hp, fun _ => h⟩
   | some u =>
    obtain ⟨v, r⟩ := u
    rw [unf_some hx hv]
    have hm := hL x (next_mem hx)
    have hd := done_like x l v
    have hvr : B64 (atP t i (doneP x l v)).r → B64 v := by
     intro hr
     rcases val_read hv with ⟨h1, _⟩ | ⟨_, h1, _⟩
     ·
      have := hd.2.2.2.2.1 h1
      rw [← this]
      exact hr
     ·
      rw [h1]; exact bd_zero
    simp only
    refine ⟨fun p e hp hq => ?_, fun hr => ?_⟩
    ·
     have h0 := hvr (hq 0 _ (Nat.zero_le _) rfl)
     obtain ⟨g1, _⟩ := unf_b hL n t (afterP L l v) (i + 1) r (lb_after hL h h0)
     cases p with
     | zero =>
      simp only [List.getElem?_cons_zero, Option.some.injEq] at hp
      rw [← hp]
      exact done_w v h hm
     | succ p =>
      simp only [List.getElem?_cons_succ] at hp
      exact g1 p e hp (fun q f hqp hf => hq (q + 1) f (by omega) (by simpa using hf))
    ·
     have h0 := hvr (hr _ List.mem_cons_self)
     exact (unf_b hL n t (afterP L l v) (i + 1) r (lb_after hL h h0)).2 (fun e he => hr e (List.mem_cons_of_mem _ he))
theorem evOk_r : ∀ (E : List EvT) (t : Int) (i : Nat) (rs : List Int) (n : Nat) (x : EvT), evOk t i rs E → E[n]? = some x → rdsB x.k = false → x.r = 0
 | [], _, _, _, _, _, _, h, _ => by simp at h
 | e :: E, t, i, rs, 0, x, ho, h, hk => by
  simp only [List.getElem?_cons_zero, Option.some.injEq] at h
  subst h
  exact (ho.2.2 hk).1
 | e :: E, t, i, rs, n + 1, x, ho, h, hk => by
  simp only [List.getElem?_cons_succ] at h
  cases hq : rdsB e.k with
  | true =>
   obtain ⟨v, r, _, _, hn⟩ := ho.2.1 hq
   exact evOk_r E t (i + 1) r n x hn h hk
  | false => exact evOk_r E t (i + 1) rs n x (ho.2.2 hq).2 h hk
theorem flat_in {α : Type} : ∀ (R : List (List α)) (e : α), e ∈ R.flatten → ∃ (t : Nat) (r : List α), R[t]? = some r ∧ ∃ p : Nat, r[p]? = some e
 | [], e, h => by simp at h
 | r :: R, e, h => by
  rw [List.flatten_cons] at h
  rcases List.mem_append.1 h with h | h
  ·
   obtain ⟨p, hp, he⟩ := List.mem_iff_getElem.1 h
   exact ⟨0, r, rfl, p, by rw [List.getElem?_eq_getElem hp, he]⟩
  ·
   obtain ⟨t, s, h1, h2⟩ := flat_in R e h
   exact ⟨t + 1, s, h1, h2⟩
theorem in_flat {α : Type} {R : List (List α)} {t : Nat} {r : List α} (h : R[t]? = some r) {e : α} (he : e ∈ r) : e ∈ R.flatten := List.mem_flatten.2 ⟨r, List.mem_of_getElem? h, he⟩
theorem mem_at {α : Type} {L : List α} {e : α} (h : e ∈ L) : ∃ i : Nat, L[i]? = some e := by
 obtain ⟨p, hp, he⟩ := List.mem_iff_getElem.1 h
 exact ⟨p, by rw [List.getElem?_eq_getElem hp, he]⟩
theorem getD_at {L : List EvT} {i : Nat} {e : EvT} (h : L[i]? = some e) : L.getD i evZ = e := by rw [List.getD_eq_getElem?_getD, h]; rfl
theorem thr_in {LL : List (List InsT)} (hB : ∀ L ∈ LL, InsB L) (t : Int) : InsB (threadP LL t) := by
 unfold threadP
 split
 ·
  rw [List.getD_eq_getElem?_getD]
  cases hq : LL[t.toNat]? with
  | none => intro y hy; simp at hy
  | some M => exact hB M (List.mem_of_getElem? hq)
 ·
  intro y hy; simp at hy
theorem okx_b {m : Nat} {IN : List Int} {LL : List (List InsT)} {x : ExT} (h : OkX m IN LL x) (h64 : x.evs.length ≤ 64) (hI : ∀ v ∈ IN, B64 v) (hB : ∀ L ∈ LL, InsB L) : ∀ e ∈ x.evs, B64 e.r ∧ B64 e.w := by
 obtain ⟨rows, hr1, hr2, hr3⟩ := h.evs
 have hn := relP_n h64
 have hac : acycR (relP x) = true := h.acyc
 have key := acyc_ind (relP_wf x) hac (fun i => ∀ e, x.evs[i]? = some e → B64 e.r ∧ B64 e.w) (fun i hi ih e he => by
  rw [hn] at hi ih
  have hm := List.mem_of_getElem? he
  -- what it reads
  have hrd : B64 e.r ∨ ¬ (rdsB e.k = true) := by
   by_cases hk : rdsB e.k = true
   ·
    obtain ⟨f, hf⟩ : ∃ f, x.rf[i]? = some f := ⟨_, List.getElem?_eq_getElem (by rw [h.rfl']; exact hi)⟩
    have := h.rf i f hf
    unfold RfOk at this
    rw [getD_at he, if_pos hk] at this
    obtain ⟨k, rfl, hk1, _, _, _, hw⟩ := this
    have hke : x.evs[k]? = some x.evs[k] := List.getElem?_eq_getElem hk1
    rw [getD_at hke] at hw
    have := ih k hk1 (relP_rf h64 (by rw [h.rfl']; exact Nat.le_refl _) hf hk1) _ hke
    rw [← hw]
    exact Or.inl this.2
   ·
    exact Or.inr hk
  rw [hr2] at hm
  rcases List.mem_append.1 hm with hm | hm
  ·
   unfold initsP at hm
   obtain ⟨j, _, rfl⟩ := List.mem_map.1 hm
   refine ⟨bd_zero, ?_⟩
   show B64 (IN.getD j 0)
   rw [List.getD_eq_getElem?_getD]
   cases hq : IN[j]? with
   | none => exact bd_zero
   | some v => exact hI v (List.mem_of_getElem? hq)
  ·
   obtain ⟨t, r, ht, p, hp⟩ := flat_in rows e hm
   obtain ⟨q, hq, _⟩ := hr3 t r ht
   have hT := thr_in hB (t : Int)
   have hst := start_on (threadP LL t)
   have hok := (unf_ok ((threadP LL t).length + 1) (threadP LL t) t (startP (threadP LL t)) 0 q hst (by omega)).1
   have e1 : unfN ((threadP LL t).length + 1) (threadP LL t) t (startP (threadP LL t)) 0 q = unfP (threadP LL t) t q := rfl
   rw [e1, ← hq] at hok
   have hub := (unf_b hT ((threadP LL t).length + 1) t (startP (threadP LL t)) 0 q (lb_start hT)).1
   rw [e1, ← hq] at hub
   obtain ⟨a1, a2⟩ := evOk_at r t 0 q p e hok hp
   have hr0 : B64 e.r := by
    rcases hrd with h1 | h1
    ·
     exact h1
    ·
     have := evOk_r r t 0 q p e hok hp (by simpa using h1)
     rw [this]; exact bd_zero
   refine ⟨hr0, hub p e hp (fun c f hc hf => ?_)⟩
   rcases Nat.lt_or_eq_of_le hc with hlt | rfl
   ·
    obtain ⟨b1, b2⟩ := evOk_at r t 0 q c f hok hf
    have hfm : f ∈ x.evs := by rw [hr2]; exact List.mem_append_right _ (in_flat ht (List.mem_of_getElem? hf))
    obtain ⟨j, hj⟩ := mem_at hfm
    have hjl := (List.getElem?_eq_some_iff.1 hj).1
    have hah : aheadB f e = true := by
     unfold aheadB
     rw [a1, b1, a2, b2, decide_eq_false (by omega)]
     simp
     omega
    exact (ih j hjl (relP_po h64 hj he hah) f hj).1
   ·
    rw [hp] at hf
    rw [← Option.some.inj hf]
    exact hr0)
 intro e he
 obtain ⟨i, hi⟩ := mem_at he
 exact key i (by rw [hn]; exact (List.getElem?_eq_some_iff.1 hi).1) e hi
end Go.Proofs.YtioiabfheeglgaaGreatDoor

namespace Go.Proofs.YtioiabfheeglgaaGreatDoor
open Go.RowKit

/-- What a thread's events read, one after the other. -/
def rdsE (E : List EvT) (t : Int) : List Int := (E.filter (fun e => e.t == t && rdsB e.k)).map EvT.r
theorem rdsE_nil (t : Int) : rdsE [] t = [] := rfl
theorem rdsE_succ {E : List EvT} {n : Nat} {e : EvT} (h : E[n]? = some e) (t : Int) : rdsE (E.take (n + 1)) t = rdsE (E.take n) t ++ (if e.t == t && rdsB e.k then [e.r] else []) := by
 unfold rdsE
 rw [List.take_add_one, h, List.filter_append, List.map_append]
 congr 1
 by_cases h : (e.t == t && rdsB e.k) = true
 ·
  simp [h]
 ·
  simp [h]
theorem rdsE_len (E : List EvT) (t : Int) : (rdsE E t).length ≤ E.length := by unfold rdsE; rw [List.length_map]; exact List.length_filter_le _ _
theorem rdsE_all (E : List EvT) (t : Int) : rdsE (E.take E.length) t = rdsE E t := by rw [List.take_length]
def regL (l : LocT) : List Int := [l.r0, l.r1, l.r2, l.r3]
/-- Where a thread ends. -/
def thrEnd (LL : List (List InsT)) (E : List EvT) (t : Nat) : LocT := (unfP (threadP LL t) t (rdsE E t)).2.1
/-- What is written last to a location. -/
def lastW (x : ExT) (c : Nat) : Int := (x.evs.getD ((x.co.getD c []).getD ((x.co.getD c []).length - 1) 0).toNat evZ).w
def endN (LL : List (List InsT)) (x : ExT) (k : Nat) : Int := if k < 16 then (regL (thrEnd LL x.evs (k / 4))).getD (k % 4) 0 else if k - 16 < x.co.length then lastW x (k - 16) else 0
theorem wrap64_b (n : Int) : -9223372036854775808 ≤ wrap64 n ∧ wrap64 n ≤ 9223372036854775807 := by unfold wrap64; omega
theorem wrap64_of {n : Int} (h : B64 n) : wrap64 n = n := by
 obtain ⟨h0, h1⟩ := h
 unfold wrap64
 omega
/-- An end out of any twenty numbers. -/
def mkF (f : Nat → Int) : FinT := ⟨(List.range 20).map (fun k => wrap64 (f k)), by simp, fun z hz => by
 obtain ⟨k, _, rfl⟩ := List.mem_map.1 hz
 exact wrap64_b _⟩
theorem mkF_at (f : Nat → Int) {k : Nat} (hk : k < 20) (hb : B64 (f k)) : (mkF f).l[k]? = some (f k) := by
 show ((List.range 20).map (fun k => wrap64 (f k)))[k]? = _
 rw [List.getElem?_map, List.getElem?_range hk]
 simp [wrap64_of hb]
def endF (LL : List (List InsT)) (x : ExT) : FinT := mkF (endN LL x)
theorem unf_r : ∀ (n : Nat) (L : List InsT) (t : Int) (l : LocT) (i : Nat) (rs : List Int), ∀ e ∈ (unfN n L t l i rs).1, e.r = 0 ∨ e.r ∈ rs
 | 0, _, _, _, _, _, e, h => by simp [unfN] at h
 | n + 1, L, t, l, i, rs, e, h => by
  cases hx : nextP L l with
  | none => rw [unf_none hx] at h; simp at h
  | some x =>
   cases hv : valP x rs with
   | none => rw [unf_more hx hv] at h; simp at h
   | some u =>
    obtain ⟨v, r⟩ := u
    rw [unf_some hx hv] at h
    have hd := done_like x l v
    rcases List.mem_cons.1 h with rfl | h
    ·
     rcases val_read hv with ⟨h1, h2⟩ | ⟨h1, _, _⟩
     ·
      refine Or.inr ?_
      show (doneP x l v).r ∈ rs
      rw [hd.2.2.2.2.1 h1, h2]
      exact List.mem_cons_self
     ·
      exact Or.inl (hd.2.2.2.2.2 h1)
    ·
     rcases unf_r n L t _ _ r e h with h1 | h1
     ·
      exact Or.inl h1
     ·
      refine Or.inr ?_
      rcases val_read hv with ⟨_, h2⟩ | ⟨_, _, h2⟩
      ·
       rw [h2]; exact List.mem_cons_of_mem _ h1
      ·
       rw [← h2]; exact h1
theorem regs_b {LL : List (List InsT)} {E : List EvT} (hB : ∀ L ∈ LL, InsB L) (hE : ∀ e ∈ E, B64 e.r) (t : Nat) : LB (thrEnd LL E t) := by
 have hT := thr_in hB (t : Int)
 have h := (unf_b hT ((threadP LL t).length + 1) t (startP (threadP LL t)) 0 (rdsE E t) (lb_start hT)).2
 refine h (fun e he => ?_)
 rcases unf_r _ _ _ _ _ _ e he with h1 | h1
 ·
  rw [h1]; exact bd_zero
 ·
  unfold rdsE at h1
  obtain ⟨f, hf, hr⟩ := List.mem_map.1 h1
  rw [← hr]
  exact hE f (List.mem_filter.1 hf).1
theorem endN_b {LL : List (List InsT)} {x : ExT} (hB : ∀ L ∈ LL, InsB L) (hE : ∀ e ∈ x.evs, B64 e.r ∧ B64 e.w) (k : Nat) : B64 (endN LL x k) := by
 unfold endN
 split
 ·
  obtain ⟨h0, h1, h2, h3⟩ := regs_b hB (fun e he => (hE e he).1) (k / 4)
  have : ∀ i, i < 4 → B64 ((regL (thrEnd LL x.evs (k / 4))).getD i 0) := by
   intro i hi
   unfold regL
   match i, hi with
   | 0, _ => exact h0
   | 1, _ => exact h1
   | 2, _ => exact h2
   | 3, _ => exact h3
  exact this _ (by omega)
 ·
  split
  ·
   unfold lastW
   rw [List.getD_eq_getElem?_getD]
   cases hq : x.evs[((x.co.getD (k - 16) []).getD ((x.co.getD (k - 16) []).length - 1) 0).toNat]? with
   | none => exact bd_zero
   | some e => exact (hE e (List.mem_of_getElem? hq)).2
  ·
   exact bd_zero
theorem thr_none {LL : List (List InsT)} {E : List EvT} {t : Nat} (h : LL.length ≤ t) : thrEnd LL E t = ⟨0, 0, 0, 0, 0⟩ := by
 have e : threadP LL (t : Int) = [] := by
  unfold threadP
  split
  ·
   rw [List.getD_eq_getElem?_getD, List.getElem?_eq_none (by omega)]; rfl
  ·
   rfl
 unfold thrEnd
 rw [e]
 rfl
theorem wleft_in {E : List EvT} {c : Nat} {y : Int} (h : y ∈ wleftP E c E.length) : ∃ k : Nat, y = (k : Int) ∧ k < E.length := by
 unfold wleftP at h
 obtain ⟨k, hk, rfl⟩ := List.mem_map.1 h
 exact ⟨k, rfl, List.mem_range.1 (List.mem_filter.1 hk).1⟩
/-- The place of a location's last write is an event's. -/
theorem last_in {E : List EvT} {c : Nat} {r : List Int} (h : CoOk E c r) (hc : c < E.length) : 0 < r.length ∧ ∃ k : Nat, r.getD (r.length - 1) 0 = (k : Int) ∧ k < E.length := by
 obtain ⟨p, rfl, hp⟩ := h
 refine ⟨by simp, ?_⟩
 have hm : ∀ y ∈ (c : Int) :: p, ∃ k : Nat, y = (k : Int) ∧ k < E.length := by
  intro y hy
  rcases List.mem_cons.1 hy with rfl | hy
  ·
   exact ⟨c, rfl, hc⟩
  ·
   have := hp.mem_iff.1 hy
   exact wleft_in this
 have hl : ((c : Int) :: p)[((c : Int) :: p).length - 1]? = some (((c : Int) :: p).getD (((c : Int) :: p).length - 1) 0) := by
  rw [List.getD_eq_getElem?_getD, List.getElem?_eq_getElem (by simp)]
  rfl
 exact hm _ (List.mem_of_getElem? hl)
end Go.Proofs.YtioiabfheeglgaaGreatDoor
