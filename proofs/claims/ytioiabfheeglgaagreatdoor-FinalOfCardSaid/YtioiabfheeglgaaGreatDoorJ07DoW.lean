/- What num.Text answers, where its table reads as it is laid (for seats whose frames are Heap's). -/
import Derived.Test.YtioiabfheeglgaaGreatDoorJ00Trees
import Derived.Test.YtioiabfheeglgaaGreatDoorShelfFin
import Derived.Lib.AtoiErrMem
import Derived.Lib.AppendIntMem
import Derived.Test.YtioiabfheeglgaaGreatDoorJ06FinX
import Derived.Test.YtioiabfheeglgaaGreatDoorJ02RegFin
import Derived.Test.YtioiabfheeglgaaGreatDoorJ04FinS
import Derived.Lib.AppendStr
import Derived.Lib.BufferRead
import Derived.Laws.IdiomStrings
import Derived.Lib.SlBytesConst
namespace Go.Proofs.YtioiabfheeglgaaGreatDoor
open Go.RowKit

/-- The table of powers reads as it is laid. -/
def Pw (w : World) : Prop := Lib.TabIs Tryz.prog w "internal/strconv.uint64pow10" .u64 Lib.pow10Tab
theorem gPw : Tryz.prog.globalNamed "internal/strconv.uint64pow10" = some 0 := by kernel_rfl
theorem lt_of_varT {w : World} {g : Nat} {n : String} {cs : Array Value} (hg : Tryz.prog.globalNamed n = some g) (h : w.var? Tryz.prog n = some cs) : g < w.heap.size := by
 unfold World.var? at h
 simp only [hg, Option.bind_some] at h
 rcases Nat.lt_or_ge g w.heap.size with h' | h'
 ·
  exact h'
 ·
  simp [Array.getElem?_eq_none h'] at h
theorem Pw.lt {w : World} (h : Pw w) : 0 < w.heap.size := lt_of_varT gPw h
theorem Pw.below {w w' : World} {B : Nat} (h : Pw w) (k : Below B w w') (hB : 0 < B) : Pw w' := var?_below k gPw hB h
theorem Pw.on {w w' : World} (h : Pw w) (k : On w w') : Pw w' := h.below k h.lt
theorem ntext_is (n : Int) (h0 : -9223372036854775808 ≤ n) (h1 : n ≤ 9223372036854775807) (w : World) (hw : Pw w) :
  Calls Tryz.prog 26 #[.int .i64 n] w fun e w' => e = .returned (.string ⟨(Lib.itoa n).toArray⟩) ∧ On w w' := by
 have htab : Lib.TabIs Tryz.prog w "internal/strconv.uint64pow10" .u64 Lib.pow10Tab := hw
 clear hw
 go_enter Tryz.func26, Tryz.ntmps26
 go_wp2_with (go_at_call 46; refine (Any.strconv_FormatInt_10 Tryz.laysM173 n h0 h1 _ htab).mono ?_; rintro e w' ⟨rfl, k, os, rfl⟩)
 go_ret
 exact ⟨rfl, Lib.below_grow _ _ (Nat.le_refl _) _ _⟩
end Go.Proofs.YtioiabfheeglgaaGreatDoor

namespace Go.Proofs.YtioiabfheeglgaaGreatDoor
open Go.RowKit

theorem infoB : (Tryz.prog.info? 5).map (fun i => (i.zero, i.size, i.bytes)) = some (some (.int .u8 0), 1, 1) := by kernel_rfl
theorem strC (l : List UInt8) : Lib.strCells ⟨l.toArray⟩ = l.map byteV := by
 unfold Lib.strCells byteV
 simp
theorem map_len {l : List UInt8} : (l.map byteV).length = l.length := List.length_map _
/-- Of what was there below B nothing has turned. -/
theorem Below.own {B : Nat} {w x y : World} {v : Value} (h : Below B w x) (hg : x.grownBy y v.ownBlock) (hB : B ≤ w.heap.size) (hv : ∀ g, v.ownBlock = some g → B ≤ g) : Below B w y :=
 ⟨hg.os.trans h.os, hg.tape.trans h.tape, hg.output.trans h.output, Nat.le_trans h.size hg.size, fun k hk => (hg.block k (Nat.lt_of_lt_of_le hk (Nat.le_trans hB h.size)) (fun e => by have := hv k e.symm; omega)).trans (h.block k hk)⟩
theorem one_byte (l : List UInt8) : ∀ u ∈ l.map byteV, u.oneCell' = true := by
 intro u hu
 obtain ⟨b, _, rfl⟩ := List.mem_map.1 hu
 rfl
theorem new_byte (w : World) (b : UInt8) (T : TypeId) : ∀ j u, ([b].map byteV)[j]? = some u → (w.alloc (.cells #[.int .u8 b.toNat] T)).cell? ((⟨w.heap.size, 0, none⟩ : Addr).add j) = some u := by
 intro j u hj
 have B := Bk.new w #[.int .u8 b.toNat] T
 have hj0 : j = 0 := by
  have := (List.getElem?_eq_some_iff.1 hj).1
  simpa using this
 subst hj0
 rw [Addr.add_lit]
 exact B.at (by simpa [byteV] using hj)
/-- A row of bytes of the call's own, and what stands. -/
structure Nx (base : Nat) (w W : World) (v : Value) (s : List UInt8) : Prop where
 own : W.ownsRow base 5 1 v s.length (s.map byteV)
 below : Below base w W
 base : base ≤ w.heap.size
section
variable {base : Nat} {w W : World} {v : Value} {s : List UInt8}
theorem Nx.le (h : Nx base w W v s) : base ≤ W.heap.size := Nat.le_trans h.base h.below.size
theorem Nx.alloc (h : Nx base w W v s) (o : Obj) : Nx base w (W.alloc o) v s := ⟨h.own.alloc o, Below.alloc h.below h.le o, h.base⟩
theorem Nx.on {W' : World} (h : Nx base w W v s) (k : On W W') (hb : 0 < base) : Nx base w W' v s := ⟨own_wa h.own (Wa.on (B := 0) k) hb, Below.trans h.below (Below.mono k h.le), h.base⟩
theorem Nx.shape (h : Nx base w W v s) : ∃ a c, v = .slice a s.length c := by
 rcases h.own.2 with ⟨hv, hl⟩ | ⟨g, cap, cur, hv, _⟩
 ·
  exact ⟨none, 0, by rw [hv, hl]⟩
 ·
  exact ⟨_, _, hv⟩
theorem Nx.next {W' : World} {v' : Value} {t : List UInt8} (h : Nx base w W v s) (g : W.grownBy W' v.ownBlock) {n : Nat} {xs : List Value} (o : W'.ownsRow base 5 1 v' n xs) (hn : n = (s ++ t).length) (hx : xs = (s ++ t).map byteV) : Nx base w W' v' (s ++ t) := by
 refine ⟨by rw [← hn, ← hx]; exact o, Below.own h.below g h.base (fun k hk => (h.own.lt k hk).1), h.base⟩
/-- A byte put behind it. -/
theorem wpList_nbyte {ops : Array Oper} {rest : List Oper} {o : Oper} {a : Act} {Q : Exit → Act → World → Prop} (hgd : o.guard = none) {sl x : Operand} (ho : o.op = .call { callee := .builtin .append, args := #[sl, x], argTypes := #[23, 23] })
  (b : UInt8) (h : Nx base w W v s) (hs : a.eval sl = v) (hl : Hid (s.length ≤ 100000)) (hx : a.eval x = .slice (some ⟨W.heap.size, 0, none⟩) 1 1)
  (k : ∀ v' W', Nx base w W' v' (s ++ [b]) → wpList Tryz.prog ops Q rest (a.put o.dst v') W') : wpList Tryz.prog ops Q (o :: rest) a (W.alloc (.cells #[.int .u8 b.toNat] 5)) := by
 obtain ⟨i0, hi0, hz0, hz1, hz2⟩ := info_parts infoB
 have hl' := hl.out
 have h1 := h.alloc (.cells #[.int .u8 b.toNat] 5)
 refine wpList_append_own _ hgd _ _ 23 ho base 5 i0 (.int .u8 0) 1 1 Tryz.underlying23 hi0 hz0 hz1 hz2 rfl (by decide) v s.length _ hs h1.own ⟨W.heap.size, 0, none⟩ 1 1 ([b].map byteV) hx rfl (new_byte W b 5) (one_byte _) (by unfold maxLen; omega) (by omega) h1.le ?_
 intro v' W' o' g' _
 exact k v' W' (h1.next g' o' (by simp) (by simp))
/-- A text put behind it. -/
theorem wpList_ntext {ops : Array Oper} {rest : List Oper} {o : Oper} {a : Act} {Q : Exit → Act → World → Prop} (hgd : o.guard = none) {sl x : Operand} (ho : o.op = .call { callee := .builtin .append, args := #[sl, x], argTypes := #[23, 9] })
  (t : List UInt8) (h : Nx base w W v s) (hs : a.eval sl = v) (hl : Hid (s.length + t.length ≤ 100000)) (hx : a.eval x = .string ⟨t.toArray⟩)
  (k : ∀ v' W', Nx base w W' v' (s ++ t) → wpList Tryz.prog ops Q rest (a.put o.dst v') W') : wpList Tryz.prog ops Q (o :: rest) a W := by
 obtain ⟨i0, hi0, hz0, hz1, hz2⟩ := info_parts infoB
 have hl' := hl.out
 have hsz : (⟨t.toArray⟩ : ByteArray).size = t.length := by simp [ByteArray.size]
 refine Lib.wpList_append_own_string W hgd _ _ 23 9 ho base 5 i0 Tryz.underlying23 Tryz.underlying9 hi0 hz0 hz1 hz2 v s.length _ hs h.own ⟨t.toArray⟩ hx (by rw [hsz]; unfold maxLen; omega) (by rw [hsz]; omega) h.le ?_
 intro v' W' o' g' _
 exact k v' W' (h.next g' o' (by rw [hsz, List.length_append]) (by rw [strC, List.map_append]))
end
set_option maxHeartbeats 2000000 in
theorem part_is (base : Nat) (s name : List UInt8) (n : Int) (h0 : -9223372036854775808 ≤ n) (h1 : n ≤ 9223372036854775807) (v : Value) (w W0 : World) (hP : Pw w) (hg : 0 < base) (ho : Nx base w W0 v s) (hs : Hid (s.length ≤ 1000)) (hn : Hid (name.length ≤ 1000)) :
  Calls Tryz.prog 27 #[v, .string ⟨name.toArray⟩, .int .i64 n] W0 fun e w' => ∃ v', e = .returned v' ∧ Nx base w w' v' (partT s name n) := by
 have hit : (Lib.itoa n).length ≤ 20 := (itoa_shape n h0 h1).2.1
 obtain ⟨a0, c0, rfl⟩ := ho.shape
 have HT : Hid (∀ W (v : Value) (t : List UInt8), Nx base w W v t → Calls Tryz.prog 26 #[.int .i64 n] W fun e w' => e = .returned (.string ⟨(Lib.itoa n).toArray⟩) ∧ Nx base w w' v t) := fun W v t k => (ntext_is n h0 h1 W (hP.below k.below hg)).mono fun _ _ ⟨he, ko⟩ => ⟨he, k.on ko (by omega)⟩
 by_cases e0 : s.length = 0
 ·
  obtain rfl := List.eq_nil_of_length_eq_zero e0
  have HP : Hid (partT [] name n = [] ++ name ++ [61] ++ Lib.itoa n) := rfl
  have l2 : Hid (([] : List UInt8).length + name.length ≤ 100000) := by have := hn.out; show _ ≤ _; simp; omega
  have l3 : Hid (([] ++ name).length ≤ 100000) := by have := hn.out; show _ ≤ _; simp; omega
  have l4 : Hid (([] ++ name ++ [61]).length + (Lib.itoa n).length ≤ 100000) := by have := hn.out; show _ ≤ _; simp; omega
  simp only [List.length_nil] at *
  clear hP hs hn hit e0
  go_enter Tryz.func27, Tryz.ntmps27
  go_wp2_with (first | (at_builtin; refine wpList_ntext rfl rfl name ho rfl l2 rfl ?_; intro v2 W2 N2) | (at_builtin; refine wpList_nbyte rfl rfl 61 N2 rfl l3 rfl ?_; intro v3 W3 N3) | (go_at_call 26; refine (HT.out _ _ _ N3).mono ?_; rintro _ W4 ⟨rfl, N4⟩) | (at_builtin; refine wpList_ntext rfl rfl (Lib.itoa n) N4 rfl l4 rfl ?_; intro v5 W5 N5))
  go_ret
  exact ⟨_, rfl, N5⟩
 ·
  have HP : Hid (partT s name n = s ++ [32] ++ name ++ [61] ++ Lib.itoa n) := by show _ = _; unfold partT; rw [if_neg e0]
  have d0 : decide (0 < s.length) = true := decide_eq_true (by omega)
  have l1 : Hid (s.length ≤ 100000) := by have := hs.out; show _ ≤ _; omega
  have l2 : Hid ((s ++ [32]).length + name.length ≤ 100000) := by have := hn.out; have := hs.out; show _ ≤ _; simp; omega
  have l3 : Hid ((s ++ [32] ++ name).length ≤ 100000) := by have := hn.out; have := hs.out; show _ ≤ _; simp; omega
  have l4 : Hid ((s ++ [32] ++ name ++ [61]).length + (Lib.itoa n).length ≤ 100000) := by have := hn.out; have := hs.out; show _ ≤ _; simp; omega
  rw [HP.out]
  clear hP hs hn hit e0
  go_enter Tryz.func27, Tryz.ntmps27
  go_wp2_with (first | (at_builtin; refine wpList_nbyte rfl rfl 32 ho rfl l1 rfl ?_; intro v1 W1 N1) | (at_builtin; refine wpList_ntext rfl rfl name N1 rfl l2 rfl ?_; intro v2 W2 N2) | (at_builtin; refine wpList_nbyte rfl rfl 61 N2 rfl l3 rfl ?_; intro v3 W3 N3) | (go_at_call 26; refine (HT.out _ _ _ N3).mono ?_; rintro _ W4 ⟨rfl, N4⟩) | (at_builtin; refine wpList_ntext rfl rfl (Lib.itoa n) N4 rfl l4 rfl ?_; intro v5 W5 N5))
  go_ret
  exact ⟨_, rfl, N5⟩
/-- Four numbers of an end, as an array. -/
def regA (f : FinT) (t : Nat) : Array Value := (((finC f).drop (t * 4)).take 4).toArray
theorem regA_size (f : FinT) {t : Nat} (h : t < 4) : (regA f t).size = 4 := by
 unfold regA
 simp [finC_len]
 omega
theorem regA_at (f : FinT) {t m : Nat} (hm : m < 4) {x : Int} (h : f.l[t * 4 + m]? = some x) : (regA f t)[m]? = some (.int .i64 x) := by
 unfold regA
 rw [List.getElem?_toArray, List.getElem?_take, if_pos hm, List.getElem?_drop]
 exact finC_at f h
theorem wpList_rld {ops : Array Oper} {rest : List Oper} {o : Oper} {a : Act} {w : World} {Q : Exit → Act → World → Prop} (hgd : o.guard = none) {x : Operand} (ho : o.op = .load 33 x)
  {N t : Nat} (ht : t < 4) (hx : a.eval x = .pointer (some ⟨N, t * 4, none⟩)) {f : FinT} (h : Bk w N (finA f)) (k : wpList Tryz.prog ops Q rest (a.put o.dst (.agg (regA f t))) w) : wpList Tryz.prog ops Q (o :: rest) a w := by
 refine wpList_load_mid hgd 33 x ho N (t * 4) hx (((finC f).drop (t * 4)).take 4) _ (fun j v hv => ?_) Tryz.underlying33 rfl (by rw [List.length_take, List.length_drop, finC_len, show min 4 (20 - t * 4) = 4 by omega]; kernel_rfl) k
 rw [List.getElem?_take] at hv
 split at hv
 ·
  rw [List.getElem?_drop] at hv
  exact h.at (by unfold finA; rw [List.getElem?_toArray]; exact hv)
 ·
  cases hv
theorem run_idx4 {A : Array Value} {m : Nat} (hm : m < 4) {z : Int} (h : A[m]? = some (.int .i64 z)) (w : World) : (Instr.index 33 (.agg A) (.int .i64 m)).run Tryz.prog w = .ok (.int .i64 z) w := by
 have e1 : (0 : Int) ≤ (m : Int) ∧ (m : Int) < ((4 : Nat) : Int) := by omega
 simp [Instr.index, asIntOf, run_underlying Tryz.underlying33, Tryz.sizeOf2, part, Tryz.isAgg2, h, hm]
theorem Nx.drew {base : Nat} {w W : World} {v : Value} {s : List UInt8} (h : Nx base w W v s) : Nx base w W.drew v s := ⟨h.own, Below.drew h.below, h.base⟩
theorem conv_one {w : World} {g off : Nat} {cap : Nat} {B : List UInt8} {c : Nat} {x : UInt8} (h : Rd byteC 1 w (.slice (some ⟨g, off, none⟩) B.length cap) B) (hc : B[c]? = some x) (n : Nat) :
  (convert 23 9 (.slice (some ⟨g, off + c, none⟩) 1 n)).run Tryz.prog w = .ok (.string ⟨[x].toArray⟩) w := by
 refine run_convert_bytes_back (P := Tryz.prog) w _ _ 5 _ n [x] Tryz.underlying23 Tryz.underlying5 Tryz.underlying9 (fun j hj => ?_)
 obtain ⟨g', off', e, hg, hcell⟩ := h.at hc
 simp only [Option.some.injEq, Addr.mk.injEq] at e
 obtain ⟨rfl, rfl, _⟩ := e
 have hj0 : j = 0 := by simpa using hj
 subst hj0
 have := hcell 0 _ rfl
 rw [Nat.mul_one, Nat.add_zero] at this
 rw [Addr.add_lit]
 exact this
theorem conv_all {base : Nat} {w W : World} {v : Value} {s : List UInt8} (h : Nx base w W v s) : (convert 23 9 v).run Tryz.prog W = .ok (.string ⟨s.toArray⟩) W := by
 obtain ⟨a, c, rfl⟩ := h.shape
 have R := rd_bytes h.own
 cases a with
 | none =>
  have e0 : s = [] := by
   cases s with
   | nil => rfl
   | cons x s =>
    obtain ⟨_, _, hv, _, _, hr⟩ := R
    simp only [Value.slice.injEq] at hv
    obtain ⟨g, off, ha, _⟩ := hr (by simp)
    rw [← hv.1] at ha
    cases ha
  subst e0
  exact Lib.run_convert_nil_bytes (P := Tryz.prog) W _ _ 5 c Tryz.underlying23 Tryz.underlying5 Tryz.underlying9
 | some ad =>
  refine run_convert_bytes_back (P := Tryz.prog) W _ _ 5 _ c s Tryz.underlying23 Tryz.underlying5 Tryz.underlying9 (fun j hj => ?_)
  obtain ⟨g', off', e, hg, hcell⟩ := R.at (List.getElem?_eq_getElem hj)
  obtain rfl := Option.some.inj e
  have := hcell 0 _ rfl
  rw [Nat.mul_one, Nat.add_zero] at this
  rw [Addr.add_lit]
  exact this
set_option maxRecDepth 8000 in
set_option maxHeartbeats 4000000 in
theorem ftext_is (LO : List UInt8) (al : Option Addr) (cl : Nat) (iv : Value) (at_ : Option Addr) (nT ct : Nat) (f : FinT) (w : World) (hP : Pw w) (hL : Rd byteC 1 w (.slice al LO.length cl) LO) :
  Calls Tryz.prog 9 #[.agg #[.slice al LO.length cl, iv, .slice at_ nT ct], .agg (finA f)] w fun e w' => e = .returned (.string ⟨(finTx (min nT 4) (LO.take 4) f).toArray⟩) ∧ On w w' := by
 obtain ⟨_, _, _, _, hm⟩ := hL.slice
 obtain ⟨PC, hPC⟩ : ∃ PC : Array Value, PC = #[.slice al LO.length cl, iv, .slice at_ nT ct] := ⟨_, rfl⟩
 have HPC : Hid (PC = #[.slice al LO.length cl, iv, .slice at_ nT ct]) := hPC
 obtain ⟨W0, hW0⟩ : ∃ W0, W0 = (w.alloc (.cells #[.slice al LO.length cl, iv, .slice at_ nT ct] 27)).alloc (.cells (finA f) 36) := ⟨_, rfl⟩
 have HW : Hid (W0 = (w.alloc (.cells #[.slice al LO.length cl, iv, .slice at_ nT ct] 27)).alloc (.cells (finA f) 36)) := hW0
 have HB1 : Hid (Bk W0 w.heap.size #[.slice al LO.length cl, iv, .slice at_ nT ct]) := by show Bk _ _ _; rw [hW0]; exact (Bk.new w _ 27).alloc _
 have HB2 : Hid (Bk W0 (w.heap.size + 1) (finA f)) := by
  have := Bk.new (w.alloc (.cells #[.slice al LO.length cl, iv, .slice at_ nT ct] 27)) (finA f) 36
  rw [World.size_alloc] at this
  show Bk _ _ _
  rw [hW0]
  exact this
 have HO : Hid (On w W0) := by show On _ _; rw [hW0]; exact ((On.refl w).alloc _).alloc _
 have hsz : W0.heap.size = w.heap.size + 2 := by rw [hW0, World.size_alloc, World.size_alloc]
 have HSZ : Hid (W0.heap.size = w.heap.size + 2) := hsz
 have HP0 : Hid (Pw W0) := hP.on HO.out
 have HG : Hid (0 < W0.heap.size) := HP0.out.lt
 have HL : Hid (Rd byteC 1 W0 (.slice al LO.length cl) LO) := hL.on HO.out
 obtain ⟨T, hT⟩ : ∃ T, T = min nT 4 := ⟨_, rfl⟩
 have eT : min (nT : Int) 4 = (T : Int) := by rw [hT]; omega
 obtain ⟨M, hM⟩ : ∃ M, M = min LO.length 4 := ⟨_, rfl⟩
 have eM : min (LO.length : Int) 4 = (M : Int) := by rw [hM]; omega
 have hT4 : T ≤ 4 := by omega
 have hM4 : M ≤ 4 := by omega
 have HML : Hid (M = (LO.take 4).length) := by show _ = _; rw [List.length_take, hM]; omega
 have HMO : Hid (M ≤ LO.length) := by show _ ≤ _; omega
 rw [← hT]
 have HN0 : Hid (Nx W0.heap.size W0 W0 (.slice none 0 0) (foldT f ((partsT T (LO.take 4)).take (0 * 4)))) := ⟨World.ownsRow_nil _ _ _ _, Below.refl _ _, Nat.le_refl _⟩
 have HBD : Hid (∀ k, (foldT f ((partsT T (LO.take 4)).take k)).length ≤ 1000) := fun k => by
  have := foldT_bound f (T := T) (L := LO.take 4) hT4 (by rw [List.length_take]; omega) k
  omega
 have HK : Hid (∀ W v s name (n : Int), -9223372036854775808 ≤ n → n ≤ 9223372036854775807 → Nx W0.heap.size W0 W v s → Hid (s.length ≤ 1000) → Hid (name.length ≤ 1000) → Calls Tryz.prog 27 #[v, .string ⟨name.toArray⟩, .int .i64 n] W fun e w' => ∃ v', e = .returned v' ∧ Nx W0.heap.size W0 w' v' (partT s name n)) := fun W v s name n h0 h1 hN hs hn => part_is W0.heap.size s name n h0 h1 v W0 W HP0.out HG.out hN hs hn
 have HTX : Hid (∀ (n : Nat) W, n < 4 → Below W0.heap.size W0 W → Calls Tryz.prog 26 #[.int .i64 n] W fun e w' => e = .returned (.string ⟨(Lib.itoa (n : Int)).toArray⟩) ∧ On W w') := fun n W hn k => ntext_is n (by omega) (by omega) W (HP0.out.below k HG.out)
 have c0 := HB1.out.at (i := 0) rfl
 have c2 := HB1.out.at (i := 2) rfl
 have hbn : nT ≤ nT := Nat.le_refl _
 clear hP hL hT hM hW0 hsz hPC hbn
 go_enter Tryz.func9, Tryz.ntmps9
 go_wp2
 rw [← HW.out]
 clear c0 c2
 go_loopg [5, 15] T (fun gg s5 s15 wq => ∃ n : Nat, n ≤ T ∧ gg = T - n ∧ s15 = .int .i64 n ∧ Hid (Nx W0.heap.size W0 wq s5 (foldT f ((partsT T (LO.take 4)).take (n * 4)))))
 case atStart => exact ⟨0, Nat.zero_le _, rfl, rfl, HN0⟩
 case round =>
  clear HN0
  obtain ⟨n, hn, hk, rfl, HN⟩ := hrel
  rcases Nat.lt_or_ge n T with hlt | hge
  ·
   have bn0 : (0 : Int) ≤ (n : Int) := by omega
   have bn1 : (n : Int) < 4 := by omega
   have hn4 : n < 4 := by omega
   have b2 : Bk wr (w.heap.size + 1) (finA f) := by
    obtain ⟨TT, e⟩ := HB2.out
    exact ⟨TT, (HN.out.below.block _ (by have := HSZ.out; omega)).trans e⟩
   have HN1 : Hid (Nx W0.heap.size W0 wr u5 (foldT f ((partsT T (LO.take 4)).take (n * 4 + 0)))) := HN
   have hrs := regA_size f hn4
   clear HN
   go_wp2_with (refine wpList_rld rfl rfl hn4 rfl b2 ?_)
   obtain ⟨wo, hwo⟩ : ∃ wo, wo = wr := ⟨_, rfl⟩
   subst hwo
   clear b2
   obtain ⟨A4, hA4⟩ : ∃ A4, A4 = regA f n := ⟨_, rfl⟩
   have HA4 : Hid (A4 = regA f n) := hA4
   rw [← hA4] at hrs ⊢
   clear hA4
   go_loopg [5, 22] 4 (fun gg s5 s22 wq => ∃ m : Nat, m ≤ 4 ∧ gg = 4 - m ∧ s22 = .int .i64 m ∧ Hid (Nx W0.heap.size W0 wq s5 (foldT f ((partsT T (LO.take 4)).take (n * 4 + m)))))
   case atStart => exact ⟨0, Nat.zero_le _, rfl, rfl, HN1⟩
   case round =>
    clear HN1
    obtain ⟨m, hm, hk2, rfl, HN⟩ := hrel
    rcases Nat.lt_or_ge m 4 with hltm | hgem
    ·
     have bm0 : (0 : Int) ≤ (m : Int) := by omega
     have bm1 : (m : Int) < 4 := by omega
     obtain ⟨x, hx⟩ := f.at (k := n * 4 + m) (by omega)
     have hax : A4[m]? = some (.int .i64 x) := by rw [HA4.out]; exact regA_at f hltm hx
     have hxd : f.l.getD (n * 4 + m) 0 = x := by rw [List.getD_eq_getElem?_getD, hx]; rfl
     have hxb := getD_in f (n * 4 + m)
     rw [hxd] at hxb
     have HS : Hid (foldT f ((partsT T (LO.take 4)).take (n * 4 + (m + 1))) = partT (foldT f ((partsT T (LO.take 4)).take (n * 4 + m))) (nameT n m) x) := by
      have := foldT_take f (partsT T (LO.take 4)) (partsT_reg T (LO.take 4) hlt hltm)
      rw [hxd] at this
      exact this
     have H1 := fun W => HTX.out n W hn4
     have H2 := fun W => HTX.out m W hltm
     have HQ : Hid (∀ W, Nx W0.heap.size W0 W u5 (foldT f ((partsT T (LO.take 4)).take (n * 4 + m))) → Calls Tryz.prog 27 #[u5, .string ⟨(nameT n m).toArray⟩, .int .i64 x] W fun e w' => ∃ v', e = .returned v' ∧ Nx W0.heap.size W0 w' v' (foldT f ((partsT T (LO.take 4)).take (n * 4 + (m + 1))))) := fun W hN => by
      rw [HS.out]
      exact HK.out W u5 _ (nameT n m) x hxb.1 hxb.2 hN (HBD.out _) (by show _ ≤ _; rw [nameT_len hn4 hltm]; omega)
     have e1 : (⟨(Lib.itoa (n : Int)).toArray⟩ : ByteArray) ++ ⟨#[58, 114]⟩ ++ ⟨(Lib.itoa (m : Int)).toArray⟩ = ⟨(nameT n m).toArray⟩ := by
      unfold nameT
      apply ByteArray.ext
      simp [ByteArray.data_append]
     have z1 : (Lib.itoa (n : Int)).length = 1 := digit_len hn4
     have z2 : (Lib.itoa (m : Int)).length = 1 := digit_len hltm
     have HE1 : Hid ((⟨(Lib.itoa (n : Int)).toArray⟩ : ByteArray) ++ ⟨#[58, 114]⟩ ++ ⟨(Lib.itoa (m : Int)).toArray⟩ = ⟨(nameT n m).toArray⟩) := e1
     obtain ⟨tn, htn⟩ : ∃ tn : ByteArray, tn = ⟨(Lib.itoa (n : Int)).toArray⟩ := ⟨_, rfl⟩
     obtain ⟨tm, htm⟩ : ∃ tm : ByteArray, tm = ⟨(Lib.itoa (m : Int)).toArray⟩ := ⟨_, rfl⟩
     rw [← htn, ← htm] at e1
     rw [← htn] at H1
     rw [← htm] at H2
     have y1 : tn.size = 1 := by rw [htn]; simp [ByteArray.size, z1]
     have y2 : tm.size = 1 := by rw [htm]; simp [ByteArray.size, z2]
     have y3 : (tn ++ ⟨#[58, 114]⟩).size = 3 := by rw [ByteArray.size_append, y1]; rfl
     have q1 : ¬ 9223372036854775807 < tn.size + (⟨#[58, 114]⟩ : ByteArray).size := by rw [y1]; show ¬ _ < 1 + 2; omega
     have q2 : ¬ 9223372036854775807 < (tn ++ ⟨#[58, 114]⟩).size + tm.size := by rw [y3, y2]; omega
     have HN2 := HN
     have hix := run_idx4 hltm hax
     clear HS hx hxd htn htm z1 z2 HA4 HE1 y1 y2 y3 hxb hax
     have hb0 : 0 < W0.heap.size := by have := HSZ.out; omega
     go_wp2_with fail
     refine (H1 _ HN.out.below).mono ?_
     rintro _ w1 ⟨rfl, k1⟩
     have N1 := HN.out.on k1 hb0
     go_wp2_with fail
     refine (H2 _ N1.below).mono ?_
     rintro _ w2 ⟨rfl, k2⟩
     have N2 := N1.on k2 hb0
     go_wp2_with fail
     refine (HQ.out _ N2).mono ?_
     rintro _ w3 ⟨v3, rfl, N3⟩
     go_wp2
     go_roundg (4 - (m + 1))
     case measure => omega
     case rel => exact ⟨m + 1, by omega, rfl, by go_num, N3⟩
    ·
     obtain rfl : m = 4 := by omega
     have HN2 : Hid (Nx W0.heap.size W0 wr u5 (foldT f ((partsT T (LO.take 4)).take ((n + 1) * 4)))) := by
      have := HN.out
      rwa [show n * 4 + 4 = (n + 1) * 4 by omega] at this
     clear HN
     go_wp2
     go_roundg (T - (n + 1))
     case measure => omega
     case rel => exact ⟨n + 1, by omega, rfl, by go_num, HN2⟩
  ·
   obtain rfl : T = n := by omega
   have HN1 : Hid (Nx W0.heap.size W0 wr u5 (foldT f ((partsT T (LO.take 4)).take (T * 4 + 0)))) := HN
   have c0 : wr.cell? ⟨w.heap.size, 0, none⟩ = some (.slice al LO.length cl) := (HN.out.below.cell (p := ⟨w.heap.size, 0, none⟩) (by have := HSZ.out; show w.heap.size < _; omega)).trans (HB1.out.at rfl)
   have FC0 : Hid (∀ W, Below W0.heap.size W0 W → W.cell? ⟨w.heap.size, 0, none⟩ = some (.slice al LO.length cl)) := fun W k => (k.cell (p := ⟨w.heap.size, 0, none⟩) (by have := HSZ.out; show w.heap.size < _; omega)).trans (HB1.out.at rfl)
   clear HN
   go_wp2
   obtain ⟨wo, hwo⟩ : ∃ wo, wo = wr := ⟨_, rfl⟩
   subst hwo
   clear c0
   go_loopg [5, 42] M (fun gg s5 s42 wq => ∃ m : Nat, m ≤ M ∧ gg = M - m ∧ s42 = .int .i64 m ∧ Hid (Nx W0.heap.size W0 wq s5 (foldT f ((partsT T (LO.take 4)).take (T * 4 + m)))))
   case atStart => exact ⟨0, Nat.zero_le _, rfl, rfl, HN1⟩
   case round =>
    clear HN1
    obtain ⟨m, hm, hk2, rfl, HN⟩ := hrel
    rcases Nat.lt_or_ge m M with hltm | hgem
    ·
     have bm0 : (0 : Int) ≤ (m : Int) := by omega
     have bm1 : (m : Int) < 4 := by omega
     have hml : m < LO.length := by have := HMO.out; omega
     obtain ⟨b, hb⟩ : ∃ b, LO[m]? = some b := ⟨_, List.getElem?_eq_getElem hml⟩
     obtain ⟨gl, ol, rfl, _, _⟩ := HL.out.at hb
     obtain ⟨x, hx⟩ := f.at (k := 16 + m) (by omega)
     have hxd : f.l.getD (16 + m) 0 = x := by rw [List.getD_eq_getElem?_getD, hx]; rfl
     have hxb := getD_in f (16 + m)
     rw [hxd] at hxb
     have HS : Hid (foldT f ((partsT T (LO.take 4)).take (T * 4 + (m + 1))) = partT (foldT f ((partsT T (LO.take 4)).take (T * 4 + m))) [b] x) := by
      have := foldT_take f (partsT T (LO.take 4)) (partsT_loc T (LO.take 4) (c := m) (x := b) (by rw [List.getElem?_take, if_pos (by omega)]; exact hb))
      rw [hxd] at this
      exact this
     have HQ : Hid (∀ W, Nx W0.heap.size W0 W u5 (foldT f ((partsT T (LO.take 4)).take (T * 4 + m))) → Calls Tryz.prog 27 #[u5, .string ⟨[b].toArray⟩, .int .i64 x] W fun e w' => ∃ v', e = .returned v' ∧ Nx W0.heap.size W0 w' v' (foldT f ((partsT T (LO.take 4)).take (T * 4 + (m + 1))))) := fun W hN => by
      rw [HS.out]
      exact HK.out W u5 _ [b] x hxb.1 hxb.2 hN (HBD.out _) (by show _ ≤ _; simp)
     have FCX : Hid (∀ W, Below W0.heap.size W0 W → W.cell? ⟨w.heap.size + 1, 16 + m, none⟩ = some (.int .i64 x)) := fun W k => (k.cell (p := ⟨w.heap.size + 1, 16 + m, none⟩) (by have := HSZ.out; show w.heap.size + 1 < _; omega)).trans (HB2.out.at (finA_at f hx))
     have FCV : Hid (∀ W, Below W0.heap.size W0 W → (convert 23 9 (.slice (some ⟨gl, ol + m, none⟩) 1 (cl - m))).run Tryz.prog W = .ok (.string ⟨[b].toArray⟩) W) := fun W k => conv_one (HL.out.on k) hb _
     have hcl : LO.length ≤ cl := by
      obtain ⟨_, _, hv, h2, _⟩ := HL.out.slice
      simp only [Value.slice.injEq] at hv
      omega
     have S0 : Below W0.heap.size W0 wr.drew := HN.out.drew.below
     have HND : Hid (Nx W0.heap.size W0 wr.drew u5 (foldT f ((partsT T (LO.take 4)).take (T * 4 + m)))) := HN.out.drew
     have w1 : IntKind.i64.wrap ((m : Int) + 1) = (m : Int) + 1 := by rw [IntKind.wrap_i64]; omega
     have hcm : ¬ cl = m := by omega
     have b5 : (m : Int) + 1 ≤ (cl : Int) := by omega
     have b6 : m + 1 ≤ cl := by omega
     have b7 : (m : Int) ≤ (m : Int) + 1 := by omega
     clear HS hx hxd hxb hb HN
     go_wp2
     refine region_fin (fun W => Below W0.heap.size W0 W) 99 14 (by kernel_rfl) rfl ?_
     refine fin_take 0 (v := ?_) rfl (by kernel_rfl) (by kernel_rfl) (by kernel_rfl) (by kernel_rfl) (fun _ _ _ h => h) rfl ?_ S0 ?_
     rotate_left
     ·
      intro W hW
      go_simp
      (try with_reducible rfl)
     simp only [zpu, zsa, zsz, zss]
     refine fin_take 1 (v := ?_) rfl (by kernel_rfl) (by kernel_rfl) (by kernel_rfl) (by kernel_rfl) (fun _ _ _ h => h) rfl ?_ S0 ?_
     rotate_left
     ·
      intro W hW
      go_simp
      (try with_reducible rfl)
     simp only [zpu, zsa, zsz, zss]
     refine fin_take 2 (v := ?_) rfl (by kernel_rfl) (by kernel_rfl) (by kernel_rfl) (by kernel_rfl) (fun _ _ _ h => h) rfl ?_ S0 ?_
     rotate_left
     ·
      intro W hW
      have c0 := FC0.out W hW
      go_simp
      (try with_reducible rfl)
     simp only [zpu, zsa, zsz, zss]
     refine fin_take 3 (v := ?_) rfl (by kernel_rfl) (by kernel_rfl) (by kernel_rfl) (by kernel_rfl) (fun _ _ _ h => h) rfl ?_ S0 ?_
     rotate_left
     ·
      intro W hW
      go_simp
      (try with_reducible rfl)
     simp only [zpu, zsa, zsz, zss]
     refine fin_take 4 (v := ?_) rfl (by kernel_rfl) (by kernel_rfl) (by kernel_rfl) (by kernel_rfl) (fun _ _ _ h => h) rfl ?_ S0 ?_
     rotate_left
     ·
      intro W hW
      go_simp
      (try with_reducible rfl)
     simp only [zpu, zsa, zsz, zss]
     refine fin_take 5 (v := ?_) rfl (by kernel_rfl) (by kernel_rfl) (by kernel_rfl) (by kernel_rfl) (fun _ _ _ h => h) rfl ?_ S0 ?_
     rotate_left
     ·
      intro W hW
      go_simp
      (try with_reducible rfl)
     simp only [zpu, zsa, zsz, zss]
     refine fin_take 6 (v := ?_) rfl (by kernel_rfl) (by kernel_rfl) (by kernel_rfl) (by kernel_rfl) (fun _ _ _ h => h) rfl ?_ S0 ?_
     rotate_left
     ·
      intro W hW
      go_simp
      (try with_reducible rfl)
     simp only [zpu, zsa, zsz, zss]
     refine fin_take 7 (v := ?_) rfl (by kernel_rfl) (by kernel_rfl) (by kernel_rfl) (by kernel_rfl) (fun _ _ _ h => h) rfl ?_ S0 ?_
     rotate_left
     ·
      intro W hW
      have cv := FCV.out W hW
      go_simp
      (try with_reducible rfl)
     simp only [zpu, zsa, zsz, zss]
     refine fin_take 8 (v := ?_) rfl (by kernel_rfl) (by kernel_rfl) (by kernel_rfl) (by kernel_rfl) (fun _ _ _ h => h) rfl ?_ S0 ?_
     rotate_left
     ·
      intro W hW
      go_simp
      (try with_reducible rfl)
     simp only [zpu, zsa, zsz, zss]
     refine fin_take 9 (v := ?_) rfl (by kernel_rfl) (by kernel_rfl) (by kernel_rfl) (by kernel_rfl) (fun _ _ _ h => h) rfl ?_ S0 ?_
     rotate_left
     ·
      intro W hW
      go_simp
      (try with_reducible rfl)
     simp only [zpu, zsa, zsz, zss]
     refine fin_take 10 (v := ?_) rfl (by kernel_rfl) (by kernel_rfl) (by kernel_rfl) (by kernel_rfl) (fun _ _ _ h => h) rfl ?_ S0 ?_
     rotate_left
     ·
      intro W hW
      go_simp
      (try with_reducible rfl)
     simp only [zpu, zsa, zsz, zss]
     refine fin_take 11 (v := ?_) rfl (by kernel_rfl) (by kernel_rfl) (by kernel_rfl) (by kernel_rfl) (fun _ _ _ h => h) rfl ?_ S0 ?_
     rotate_left
     ·
      intro W hW
      have cx := FCX.out W hW
      go_simp
      (try with_reducible rfl)
     simp only [zpu, zsa, zsz, zss]
     refine fin_one 12 rfl rfl (by kernel_rfl) (fun K hK => ?_)
     go_simp
     refine (HQ.out _ HND.out).mono ?_
     rintro _ w3 ⟨v3, rfl, N3⟩
     refine hK.out _ _ (fun _ => N3.below) ?_
     clear hK
     refine fin_take 13 (v := ?_) rfl (by kernel_rfl) (by kernel_rfl) (by kernel_rfl) (by kernel_rfl) (fun _ _ _ h => h) rfl ?_ N3.below ?_
     rotate_left
     ·
      intro W hW
      go_simp
      (try with_reducible rfl)
     simp only [zpu, zsa, zsz, zss]
     refine fin_done (by kernel_rfl) (NoPanic.normal ?_)
     go_wp2
     go_roundg (M - (m + 1))
     case measure => omega
     case rel => exact ⟨m + 1, by omega, rfl, by go_num, N3⟩
    ·
     obtain rfl : m = M := by omega
     have HF : Hid (foldT f ((partsT T (LO.take 4)).take (T * 4 + m)) = finTx T (LO.take 4) f) := by
      show _ = _
      unfold finTx
      rw [List.take_of_length_le (by rw [partsT_len, ← HML.out]; exact Nat.le_refl _)]
     have hcv := conv_all HN.out
     rw [HF.out] at hcv
     go_wp2
     go_ret
     exact ⟨rfl, Below.trans HO.out (Below.mono HN.out.below (by have := HSZ.out; omega))⟩
end Go.Proofs.YtioiabfheeglgaaGreatDoor

namespace Go.Proofs.YtioiabfheeglgaaGreatDoor
open Go.RowKit

def f1 : FinT := ⟨[0, 0, 0, 0, 0, 0, 0, 0, 0, 0, 0, 0, 0, 0, 0, 0, 1, 0, 0, 0], rfl, fun z hz => by
 simp only [List.mem_cons, List.not_mem_nil, or_false] at hz
 omega⟩
theorem text1 : finTx 1 [120] f1 = [48, 58, 114, 48, 61, 48, 32, 48, 58, 114, 49, 61, 48, 32, 48, 58, 114, 50, 61, 48, 32, 48, 58, 114, 51, 61, 48, 32, 120, 61, 49] := by decide +kernel
/-- A guarded row of one end, of two. -/
theorem wpList_fsliceG {ops : Array Oper} {rest : List Oper} {o : Oper} {a : Act} {w : World} {Q : Exit → Act → World → Prop} (hw : Region.wanted o (yielded ops a.tmps) = true) {x : Operand} (ho : o.op = .buildSlice 69 1 #[(0, x)]) {f : FinT} (hx : a.eval x = .agg (finA f))
  (h : wpList Tryz.prog ops Q rest (a.put o.dst (.slice (some ⟨w.heap.size, 0, none⟩) 1 1)) (w.alloc (.cells (finA f) 36))) : wpList Tryz.prog ops Q (o :: rest) a w := by
 unfold wpList
 rw [if_pos hw]
 exact Or.inl (wp_fslice ho hx h)
theorem fill_two : Instr.fill (fun i => some (i * 20, 20)) ((Array.range (2 * 20)).map ((Value.agg (finA finZ)).cells[· % (Value.agg (finA finZ)).cells.size]!)) [(0, .agg (finA f1)), (1, .agg (finA f1))] = some (finA f1 ++ finA f1) := by kernel_rfl
theorem wpList_ftwoG {ops : Array Oper} {rest : List Oper} {o : Oper} {a : Act} {w : World} {Q : Exit → Act → World → Prop} (hw : Region.wanted o (yielded ops a.tmps) = true) {x y : Operand} (ho : o.op = .buildSlice 69 2 #[(0, x), (1, y)]) (hx : a.eval x = .agg (finA f1)) (hy : a.eval y = .agg (finA f1))
  (h : wpList Tryz.prog ops Q rest (a.put o.dst (.slice (some ⟨w.heap.size, 0, none⟩) 2 2)) (w.alloc (.cells (finA f1 ++ finA f1) 36))) : wpList Tryz.prog ops Q (o :: rest) a w := by
 unfold wpList
 rw [if_pos hw]
 obtain ⟨i0, hi, hz0, hz1, hz2⟩ := info_parts fin_info3
 refine Or.inl (wp_buildSlice 69 36 2 _ ho (finA f1 ++ finA f1) i0 _ Tryz.underlying69 hi hz0 (by rw [hz1]; omega) (by rw [hz1]; omega) ?_ h)
 rw [hz1]
 simp only [List.map_toArray, List.map_cons, List.map_nil, hx, hy]
 exact fill_two
theorem rd_two {w : World} {N : Nat} (B : Bk w N (finA f1 ++ finA f1)) : Rd finC 20 w (.slice (some ⟨N, 0, none⟩) 2 2) [f1, f1] := by
 have e : (finA f1 ++ finA f1).toList = [f1, f1].flatMap finC := rfl
 refine ⟨_, 2, rfl, Nat.le_refl _, by simp, fun _ => ⟨N, 0, rfl, B.lt, fun i x j u hi hj => ?_⟩⟩
 have hj' := (List.getElem?_eq_some_iff.1 hj).1
 rw [finC_len] at hj'
 have := flat_at finC 20 finC_len [f1, f1] i j x hi hj'
 rw [← e, hj] at this
 rw [Nat.zero_add]
 exact B.at (by rw [← Array.getElem?_toList]; exact this)
theorem sort_two (W : World) (N : Nat) (B : Bk W N (finA f1 ++ finA f1)) : Calls Tryz.prog 19 #[.slice (some ⟨N, 0, none⟩) 2 2] W fun e w' => ∃ a c, e = .returned (.slice a 1 c) ∧ On W w' := by
 refine (fsort_is [f1, f1] (some ⟨N, 0, none⟩) 2 W (rd_two B) (by decide)).mono ?_
 rintro e w' ⟨v, M, rfl, h1, h2, h3, h4, h5⟩
 obtain rfl : M = [f1] := ris_ext h3 (List.pairwise_singleton _ _) (fun x => by rw [h5]; simp)
 obtain ⟨a, c, rfl, _⟩ := h2.slice
 exact ⟨a, c, rfl, h1⟩
theorem has_one (W : World) (N : Nat) (B : Bk W N (finA f1)) : Calls Tryz.prog 20 #[.slice (some ⟨N, 0, none⟩) 1 1, .agg (finA f1)] W fun e w' => e = .returned (.bool true) ∧ On W w' := by
 have := has_is [f1] f1 (some ⟨N, 0, none⟩) 1 W (rd_one B)
 have e : decide (f1 ∈ [f1]) = true := decide_eq_true (List.mem_singleton.2 rfl)
 rw [e] at this
 exact this
theorem text_one (W : World) (hP : Pw W) (al : Addr) (cl : Nat) (iv : Value) (at_ : Option Addr) (ct : Nat) (hL : Rd byteC 1 W (.slice (some al) 1 cl) [120]) : Calls Tryz.prog 9 #[.agg #[.slice (some al) 1 cl, iv, .slice at_ 1 ct], .agg (finA f1)] W fun e w' => e = .returned (.string ⟨#[48, 58, 114, 48, 61, 48, 32, 48, 58, 114, 49, 61, 48, 32, 48, 58, 114, 50, 61, 48, 32, 48, 58, 114, 51, 61, 48, 32, 120, 61, 49]⟩) ∧ On W w' := by
 have := ftext_is [120] (some al) cl iv at_ 1 ct f1 W hP hL
 rw [show min 1 4 = 1 from rfl, show ([120] : List UInt8).take 4 = [120] from rfl, text1] at this
 exact this
theorem Bk.newAtF {w : World} {N : Nat} (h : N = w.heap.size) (cs : Array Value) (T : TypeId) : Bk (w.alloc (.cells cs T)) N cs := h ▸ Bk.new w cs T
theorem wpList_fstAt {ops : Array Oper} {rest : List Oper} {o : Oper} {a : Act} {w : World} {Q : Exit → Act → World → Prop} (hgd : o.guard = none) {x y : Operand} (ho : o.op = .store 36 x y) {c : Array Value} (hc : c.size = 20) {N : Nat} (hN : N = w.heap.size)
  (hx : a.eval x = .pointer (some ⟨N, 0, none⟩)) (f : FinT) (hy : a.eval y = .agg (finA f)) (k : wpList Tryz.prog ops Q rest (a.put o.dst undef) (w.alloc (.cells (finA f) 36))) : wpList Tryz.prog ops Q (o :: rest) a (w.alloc (.cells c 36)) := by
 subst hN
 exact wpList_fst hgd ho hc hx hy k
set_option maxRecDepth 8000 in
set_option maxHeartbeats 4000000 in
theorem awake13_is (w : World) (hP : Pw w) : Calls Tryz.prog 6 #[] w fun e w' => e = .returned (.bool true) ∧ On w w' := by
 have HP : Hid (Pw w) := hP
 have kc := fun (w : World) (C : Array Value) (n c : Nat) => Lib.run_convert_bytes_const (P := Tryz.prog) w 23 5 C n c Tryz.underlying23 Tryz.underlying5
 clear hP
 obtain ⟨W5, hW5⟩ : ∃ W5, W5 = ((((w.alloc (.cells #[.int .u8 120] 5 (1, 2))).alloc (.cells #[.int .i64 0] 2)).alloc (.cells #[.int .i64 1, .int .i64 0, .int .i64 0, .int .i64 (-1), .int .i64 1, .int .i64 0, .int .i64 0, .int .i64 0, .int .i64 0] 67)).alloc (.cells #[.slice (some ⟨w.heap.size + 1 + 1, 0, none⟩) 1 1] 68)).alloc (.cells #[.slice (some ⟨w.heap.size, 0, none⟩) 1 1, .slice (some ⟨w.heap.size + 1, 0, none⟩) 1 1, .slice (some ⟨w.heap.size + 1 + 1 + 1, 0, none⟩) 1 1] 27) := ⟨_, rfl⟩
 have hz5 : W5.heap.size = w.heap.size + 1 + 1 + 1 + 1 + 1 := by rw [hW5]; simp only [World.size_alloc]
 have HZ5 : Hid (w.heap.size + 1 + 1 + 1 + 1 + 1 = W5.heap.size) := hz5.symm
 have HK5 : Hid (On w W5) := by show On _ _; rw [hW5]; exact (((((On.refl w).alloc _).alloc _).alloc _).alloc _).alloc _
 have HC5 : Hid (W5.cell? ⟨w.heap.size, 0, none⟩ = some (.int .u8 120)) := by
  show _ = _
  rw [hW5]
  have h : On (w.alloc (.cells #[.int .u8 120] 5 (1, 2))) (((((w.alloc (.cells #[.int .u8 120] 5 (1, 2))).alloc (.cells #[.int .i64 0] 2)).alloc (.cells #[.int .i64 1, .int .i64 0, .int .i64 0, .int .i64 (-1), .int .i64 1, .int .i64 0, .int .i64 0, .int .i64 0, .int .i64 0] 67)).alloc (.cells #[.slice (some ⟨w.heap.size + 1 + 1, 0, none⟩) 1 1] 68)).alloc (.cells #[.slice (some ⟨w.heap.size, 0, none⟩) 1 1, .slice (some ⟨w.heap.size + 1, 0, none⟩) 1 1, .slice (some ⟨w.heap.size + 1 + 1 + 1, 0, none⟩) 1 1] 27)) := ((((On.refl _).alloc _).alloc _).alloc _).alloc _
  exact (h.cell (p := ⟨w.heap.size, 0, none⟩) (by show w.heap.size < _; rw [World.size_alloc]; omega)).trans (World.cell?_alloc_mark w _ _ _ 0)
 have B5 : Hid (Bk W5 (w.heap.size + 1 + 1 + 1 + 1) #[.slice (some ⟨w.heap.size, 0, none⟩) 1 1, .slice (some ⟨w.heap.size + 1, 0, none⟩) 1 1, .slice (some ⟨w.heap.size + 1 + 1 + 1, 0, none⟩) 1 1]) := by show Bk _ _ _; rw [hW5]; exact Bk.newAtF (by simp only [World.size_alloc]) _ _
 have HW5 : Hid (W5 = _) := hW5
 have q0 := (B5.out.alloc (.cells (finA f1) 36)).at (i := 0) rfl
 have q1 := (B5.out.alloc (.cells (finA f1) 36)).at (i := 1) rfl
 have q2 := (B5.out.alloc (.cells (finA f1) 36)).at (i := 2) rfl
 have BF : Hid (Bk (W5.alloc (.cells (finA f1) 36)) (w.heap.size + 1 + 1 + 1 + 1 + 1) (finA f1)) := Bk.newAtF HZ5.out _ _
 have r1 := BF.out.range
 have HP6 : Hid (Pw (W5.alloc (.cells (finA f1) 36))) := HP.out.on (HK5.out.alloc _)
 have hTx := text_one (W5.alloc (.cells (finA f1) 36)) HP6.out ⟨w.heap.size, 0, none⟩ 1 (.slice (some ⟨w.heap.size + 1, 0, none⟩) 1 1) (some ⟨w.heap.size + 1 + 1 + 1, 0, none⟩) 1 ⟨_, 1, rfl, Nat.le_refl _, by simp, fun _ => ⟨_, 0, rfl, by rw [World.size_alloc]; have := HZ5.out; omega, fun i x j u hi hj => by
  have hi0 : i = 0 := by simpa using (List.getElem?_eq_some_iff.1 hi).1
  subst hi0
  simp only [List.getElem?_cons_zero, Option.some.injEq] at hi
  subst hi
  have hj0 : j = 0 := by simpa [byteC] using (List.getElem?_eq_some_iff.1 hj).1
  subst hj0
  simp only [byteC, List.getElem?_cons_zero, Option.some.injEq] at hj
  subst hj
  exact (((On.refl W5).alloc _).cell (p := ⟨w.heap.size, 0, none⟩) (by show w.heap.size < _; have := HZ5.out; omega)).trans HC5.out⟩⟩
 clear hW5 hz5
 go_enter Tryz.func6, Tryz.ntmps6
 go_wp2_with (first | (rw [← HW5.out]; refine wpList_fstAt rfl rfl rfl HZ5.out rfl f1 rfl ?_) | (refine wpList_fld rfl rfl rfl r1 ?_))
 refine hTx.mono ?_
 rintro _ w1 ⟨rfl, k1⟩
 have HF1 : Hid (Bk w1 (w.heap.size + 1 + 1 + 1 + 1 + 1) (finA f1)) := BF.out.on k1
 have r2 := HF1.out.range
 have K1 : Hid (On w w1) := (HK5.out.alloc _).trans k1
 clear hTx r1 q0 q1 q2 k1
 go_wp2_with (first | (refine wpList_fldG rfl rfl rfl r2 ?_) | (refine wpList_ftwoG rfl rfl rfl rfl ?_))
 refine (sort_two _ _ (Bk.new w1 _ _)).mono ?_
 rintro _ w2 ⟨a2, c2, rfl, k2⟩
 have HF2 : Hid (Bk w2 (w.heap.size + 1 + 1 + 1 + 1 + 1) (finA f1)) := (HF1.out.alloc _).on k2
 have r3 := HF2.out.range
 have r4 := (HF2.out.alloc (.cells (finA f1) 36)).range
 have K2 : Hid (On w w2) := (K1.out.alloc _).trans k2
 clear r2 k2
 go_wp2_with (first | (refine wpList_fldG rfl rfl rfl r3 ?_) | (refine wpList_fsliceG rfl rfl rfl ?_) | (refine wpList_fldG rfl rfl rfl r4 ?_))
 refine (has_one _ _ (Bk.new w2 _ _)).mono ?_
 rintro _ w3 ⟨rfl, k3⟩
 go_wp2
 go_ret
 exact ⟨rfl, (K2.out.alloc _).trans k3⟩
end Go.Proofs.YtioiabfheeglgaaGreatDoor

namespace Go.Proofs.YtioiabfheeglgaaGreatDoor
open Go.RowKit

theorem i64_and63 (n : Int) : bits .and .i64 n 63 = n % 64 := by
 have h63 : (BitVec.ofInt 64 63).toNat = 2 ^ 6 - 1 := by decide
 have key : (BitVec.ofInt 64 n &&& BitVec.ofInt 64 63).toNat = (n % ((2 ^ 64 : Nat) : Int)).toNat % 2 ^ 6 := by
  rw [BitVec.toNat_and, BitVec.toNat_ofInt, h63, Nat.and_two_pow_sub_one_eq_mod]
 show IntKind.i64.wrap ((BitVec.ofInt 64 n &&& BitVec.ofInt 64 63).toNat : Nat) = n % 64
 rw [key, IntKind.wrap_i64]
 omega

/-- How far b shifts. -/
def sh (b : Int) : Nat := (b % 64).toNat
theorem sh_lt (b : Int) : sh b < 64 := by unfold sh; omega

set_option maxHeartbeats 400000 in
theorem modulo_any (b : Int) (w : World) :
  Calls Tryz.prog 104 #[.int .i64 b] w fun e w' => e = .returned (.int .u64 (sh b)) ∧ w' = w := by
 have e : IntKind.u64.wrap (bits .and .i64 b 63) = (sh b : Int) := by
  rw [i64_and63, IntKind.wrap_u64]; unfold sh; omega
 go_enter Tryz.func104, Tryz.ntmps104
 go_wp2
 go_ret
 exact ⟨rfl, rfl⟩

def b2i (b : Bool) : Int := if b then 1 else 0
set_option maxHeartbeats 400000 in
theorem truth_any (b : Bool) (w : World) :
  Calls Tryz.prog 105 #[.bool b] w fun e w' => e = .returned (.int .i64 (b2i b)) ∧ w' = w := by
 cases b
 all_goals
  go_enter Tryz.func105, Tryz.ntmps105
  go_wp2
  go_ret
  exact ⟨rfl, rfl⟩

/-- What Do answers. -/
def doV (op a b : Int) : Int :=
 if op = 1 then wrap64 (a + b) else if op = 2 then wrap64 (a - b) else if op = 3 then wrap64 (a * b)
 else if op = 4 then bits .and .i64 a b else if op = 5 then bits .or .i64 a b else if op = 6 then bits .xor .i64 a b
 else if op = 7 then wrap64 (a * 2 ^ sh b) else if op = 8 then a / 2 ^ sh b
 else if op = 9 then b2i (a == b) else if op = 10 then b2i (a != b) else if op = 11 then b2i (decide (a < b)) else 0

def doW (op : Int) : Bool := decide (1 ≤ op ∧ op ≤ 11)

section
set_option maxHeartbeats 400000
theorem do1 (a b : Int) (w : World) : Calls Tryz.prog 90 #[.int .i64 1, .int .i64 a, .int .i64 b] w fun e w' => e = .returned (.tuple #[.int .i64 (wrap64 (a + b)), .bool true]) ∧ w' = w := by
 go_enter Tryz.func90, Tryz.ntmps90
 go_wp2
 go_ret2
 exact ⟨rfl, rfl⟩
theorem do2 (a b : Int) (w : World) : Calls Tryz.prog 90 #[.int .i64 2, .int .i64 a, .int .i64 b] w fun e w' => e = .returned (.tuple #[.int .i64 (wrap64 (a - b)), .bool true]) ∧ w' = w := by
 go_enter Tryz.func90, Tryz.ntmps90
 go_wp2
 go_ret2
 exact ⟨rfl, rfl⟩
theorem do3 (a b : Int) (w : World) : Calls Tryz.prog 90 #[.int .i64 3, .int .i64 a, .int .i64 b] w fun e w' => e = .returned (.tuple #[.int .i64 (wrap64 (a * b)), .bool true]) ∧ w' = w := by
 go_enter Tryz.func90, Tryz.ntmps90
 go_wp2
 go_ret2
 exact ⟨rfl, rfl⟩
theorem do4 (a b : Int) (w : World) : Calls Tryz.prog 90 #[.int .i64 4, .int .i64 a, .int .i64 b] w fun e w' => e = .returned (.tuple #[.int .i64 (bits .and .i64 a b), .bool true]) ∧ w' = w := by
 go_enter Tryz.func90, Tryz.ntmps90
 go_wp2
 go_ret2
 exact ⟨rfl, rfl⟩
theorem do5 (a b : Int) (w : World) : Calls Tryz.prog 90 #[.int .i64 5, .int .i64 a, .int .i64 b] w fun e w' => e = .returned (.tuple #[.int .i64 (bits .or .i64 a b), .bool true]) ∧ w' = w := by
 go_enter Tryz.func90, Tryz.ntmps90
 go_wp2
 go_ret2
 exact ⟨rfl, rfl⟩
theorem do6 (a b : Int) (w : World) : Calls Tryz.prog 90 #[.int .i64 6, .int .i64 a, .int .i64 b] w fun e w' => e = .returned (.tuple #[.int .i64 (bits .xor .i64 a b), .bool true]) ∧ w' = w := by
 go_enter Tryz.func90, Tryz.ntmps90
 go_wp2
 go_ret2
 exact ⟨rfl, rfl⟩
theorem do7 (a b : Int) (w : World) : Calls Tryz.prog 90 #[.int .i64 7, .int .i64 a, .int .i64 b] w fun e w' => e = .returned (.tuple #[.int .i64 (wrap64 (a * 2 ^ sh b)), .bool true]) ∧ w' = w := by
 have hs := sh_lt b
 go_enter Tryz.func90, Tryz.ntmps90
 go_wp2_with (go_at_call 104; refine (modulo_any _ _).mono ?_; rintro e w' ⟨rfl, rfl⟩)
 go_ret2
 exact ⟨rfl, rfl⟩
theorem do8 (a b : Int) (w : World) : Calls Tryz.prog 90 #[.int .i64 8, .int .i64 a, .int .i64 b] w fun e w' => e = .returned (.tuple #[.int .i64 (a / 2 ^ sh b), .bool true]) ∧ w' = w := by
 have hs := sh_lt b
 go_enter Tryz.func90, Tryz.ntmps90
 go_wp2_with (go_at_call 104; refine (modulo_any _ _).mono ?_; rintro e w' ⟨rfl, rfl⟩)
 go_ret2
 exact ⟨rfl, rfl⟩
theorem do9 (a b : Int) (w : World) : Calls Tryz.prog 90 #[.int .i64 9, .int .i64 a, .int .i64 b] w fun e w' => e = .returned (.tuple #[.int .i64 (b2i (a == b)), .bool true]) ∧ w' = w := by
 go_enter Tryz.func90, Tryz.ntmps90
 go_wp2_with (go_at_call 105; refine (truth_any _ _).mono ?_; rintro e w' ⟨rfl, rfl⟩)
 go_ret2
 exact ⟨rfl, rfl⟩
theorem do10 (a b : Int) (w : World) : Calls Tryz.prog 90 #[.int .i64 10, .int .i64 a, .int .i64 b] w fun e w' => e = .returned (.tuple #[.int .i64 (b2i (a != b)), .bool true]) ∧ w' = w := by
 go_enter Tryz.func90, Tryz.ntmps90
 go_wp2_with (go_at_call 105; refine (truth_any _ _).mono ?_; rintro e w' ⟨rfl, rfl⟩)
 go_ret2
 exact ⟨rfl, rfl⟩
theorem do11 (a b : Int) (w : World) : Calls Tryz.prog 90 #[.int .i64 11, .int .i64 a, .int .i64 b] w fun e w' => e = .returned (.tuple #[.int .i64 (b2i (decide (a < b))), .bool true]) ∧ w' = w := by
 go_enter Tryz.func90, Tryz.ntmps90
 go_wp2_with (go_at_call 105; refine (truth_any _ _).mono ?_; rintro e w' ⟨rfl, rfl⟩)
 go_ret2
 exact ⟨rfl, rfl⟩
end

theorem doV1 (a b : Int) : doV 1 a b = wrap64 (a + b) := rfl
theorem doV2 (a b : Int) : doV 2 a b = wrap64 (a - b) := rfl
theorem doV3 (a b : Int) : doV 3 a b = wrap64 (a * b) := rfl
theorem doV4 (a b : Int) : doV 4 a b = bits .and .i64 a b := rfl
theorem doV5 (a b : Int) : doV 5 a b = bits .or .i64 a b := rfl
theorem doV6 (a b : Int) : doV 6 a b = bits .xor .i64 a b := rfl
theorem doV7 (a b : Int) : doV 7 a b = wrap64 (a * 2 ^ sh b) := rfl
theorem doV8 (a b : Int) : doV 8 a b = a / 2 ^ sh b := rfl
theorem doV9 (a b : Int) : doV 9 a b = b2i (a == b) := rfl
theorem doV10 (a b : Int) : doV 10 a b = b2i (a != b) := rfl
theorem doV11 (a b : Int) : doV 11 a b = b2i (decide (a < b)) := rfl

/-- DO, at every op that there is. -/
theorem do_is (op a b : Int) (w : World) (h : 1 ≤ op ∧ op ≤ 11) :
  Calls Tryz.prog 90 #[.int .i64 op, .int .i64 a, .int .i64 b] w fun e w' => e = .returned (.tuple #[.int .i64 (doV op a b), .bool true]) ∧ w' = w := by
 have hc : op = 1 ∨ op = 2 ∨ op = 3 ∨ op = 4 ∨ op = 5 ∨ op = 6 ∨ op = 7 ∨ op = 8 ∨ op = 9 ∨ op = 10 ∨ op = 11 := by omega
 rcases hc with rfl | rfl | rfl | rfl | rfl | rfl | rfl | rfl | rfl | rfl | rfl
 ·
  exact do1 a b w
 ·
  exact do2 a b w
 ·
  exact do3 a b w
 ·
  exact do4 a b w
 ·
  exact do5 a b w
 ·
  exact do6 a b w
 ·
  exact do7 a b w
 ·
  exact do8 a b w
 ·
  exact do9 a b w
 ·
  exact do10 a b w
 ·
  exact do11 a b w

set_option maxHeartbeats 400000 in
/-- .. and at another one. -/
theorem do_none (op a b : Int) (w : World) (h : ¬ (1 ≤ op ∧ op ≤ 11)) :
  Calls Tryz.prog 90 #[.int .i64 op, .int .i64 a, .int .i64 b] w fun e w' => e = .returned (.tuple #[.int .i64 0, .bool false]) ∧ w' = w := by
 have n1 : (op == 1) = false := by simp; omega
 have n2 : (op == 2) = false := by simp; omega
 have n3 : (op == 3) = false := by simp; omega
 have n4 : (op == 4) = false := by simp; omega
 have n5 : (op == 5) = false := by simp; omega
 have n6 : (op == 6) = false := by simp; omega
 have n7 : (op == 7) = false := by simp; omega
 have n8 : (op == 8) = false := by simp; omega
 have n9 : (op == 9) = false := by simp; omega
 have n10 : (op == 10) = false := by simp; omega
 have n11 : (op == 11) = false := by simp; omega
 clear h
 go_enter Tryz.func90, Tryz.ntmps90
 go_wp2
 go_ret2
 exact ⟨rfl, rfl⟩

/-- DO's number at any sign. -/
def doB (op : Int) : Bool := decide (1 ≤ op) && decide (op ≤ 11)
theorem doV_none (op a b : Int) (h : ¬ (1 ≤ op ∧ op ≤ 11)) : doV op a b = 0 := by
 unfold doV
 have h1 : op ≠ 1 := by omega
 have h2 : op ≠ 2 := by omega
 have h3 : op ≠ 3 := by omega
 have h4 : op ≠ 4 := by omega
 have h5 : op ≠ 5 := by omega
 have h6 : op ≠ 6 := by omega
 have h7 : op ≠ 7 := by omega
 have h8 : op ≠ 8 := by omega
 have h9 : op ≠ 9 := by omega
 have h10 : op ≠ 10 := by omega
 have h11 : op ≠ 11 := by omega
 simp only [h1, h2, h3, h4, h5, h6, h7, h8, h9, h10, h11, if_false]
theorem do_any (op a b : Int) (w : World) : Calls Tryz.prog 90 #[.int .i64 op, .int .i64 a, .int .i64 b] w fun e w' => e = .returned (.tuple #[.int .i64 (doV op a b), .bool (doB op)]) ∧ w' = w := by
 by_cases h : 1 ≤ op ∧ op ≤ 11
 ·
  have hb : doB op = true := by unfold doB; simp; omega
  rw [hb]; exact do_is op a b w h
 ·
  have hb : doB op = false := by unfold doB; simp; omega
  rw [hb, doV_none op a b h]; exact do_none op a b w h
end Go.Proofs.YtioiabfheeglgaaGreatDoor
