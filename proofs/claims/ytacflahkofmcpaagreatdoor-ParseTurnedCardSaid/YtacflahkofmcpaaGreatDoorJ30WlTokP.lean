/- Rows of bytes: made of a text, one turned, cut and joined again. -/
import Derived.Test.YtacflahkofmcpaaGreatDoorJ00LexPure
import Derived.Test.YtacflahkofmcpaaGreatDoorJ25RefTreeW
import Derived.Test.YtacflahkofmcpaaGreatDoorPlaceP
import Derived.Test.YtacflahkofmcpaaGreatDoorWlTys
import Derived.Lib.ConvBytes
import Derived.Lib.BufferRead
import Derived.Maps.AppendAt
import Derived.Lib.ItoaNum
namespace Go.Proofs.YtacflahkofmcpaaGreatDoor.Wl
open Go.RowKit

theorem xor_byte (x y : Int) : ∃ c : UInt8, bits .xor .u8 x y = (c.toNat : Int) := by
  have key : ∀ n : Int, ∃ c : UInt8, IntKind.u8.wrap n = (c.toNat : Int) := by
    intro n
    refine ⟨UInt8.ofNat (n % 256).toNat, ?_⟩
    have e : IntKind.u8.wrap n = n % 256 := by simp [IntKind.wrap, IntKind.signed, IntKind.bits]
    rw [e, UInt8.toNat_ofNat']
    omega
  exact key _
theorem byte_flat : ∀ l : List UInt8, l.flatMap byteC = l.map byteV
  | [] => rfl
  | b :: l => by rw [List.flatMap_cons, List.map_cons, byte_flat l]; rfl
theorem run_append_nilb {P : Program} {w : World} (base : Nat) (t ty e : TypeId) (i : TypeInfo) (size : Nat) (ht : P.underlying t = some (.slice e)) (hi : P.info? e = some i) (v : Value) (n : Nat) (xs : List Value) (hown : w.ownsRow base e size v n xs) (b : Option Addr) (d : Nat) :
    (Builtin.append_ #[t, t] ty #[v, .slice b 0 d]).run P w = .ok v w := by
  rcases hown.2 with ⟨rfl, rfl⟩ | ⟨g, cap, cur, rfl, _, _, hnc, _⟩
  · cases b <;> simp [Builtin.append_, run_underlying ht, sizeOf, typeInfo, hi, Builtin.lenOf, Builtin.firstCells, loadCells, loadCellsFrom]
  · cases b <;> simp [Builtin.append_, run_underlying ht, sizeOf, typeInfo, hi, Builtin.lenOf, Builtin.firstCells, hnc, storeCells, loadCells, loadCellsFrom]
theorem wp_append_rdb {o : Oper} {a : Act} {w : World} {K : Act → World → Prop} {Q : Exit → Act → World → Prop} (s x : Operand)
    (ho : o.op = .call { callee := .builtin .append, args := #[s, x], argTypes := #[41, 41] })
    {base : Nat} {v : Value} {X Y : List UInt8} {b : Option Addr} {d m : Nat} (hm : m = Y.length) (hs : a.eval s = v) (hx : a.eval x = .slice b m d) (hv : w.ownsRow base 5 1 v X.length (X.flatMap byteC)) (hu : Rd byteC 1 w (.slice b m d) Y) (hl : X.length + Y.length ≤ 1000000) (hb : base ≤ w.heap.size)
    (h : ∀ v' w', w'.ownsRow base 5 1 v' (X ++ Y).length ((X ++ Y).flatMap byteC) → w.grownBy w' v.ownBlock → K (a.put o.dst v') w') : o.wp Tryz.prog a w K Q := by
  subst hm
  obtain ⟨i0, hi, hz0, hz1, hz2⟩ := info_parts infoByte
  rcases Nat.eq_zero_or_pos Y.length with h0 | h0
  · obtain rfl : Y = [] := List.eq_nil_of_length_eq_zero h0
    have hrun := run_append_nilb (P := Tryz.prog) (w := w) base 41 o.type 5 i0 1 Tryz.underlying41 hi v X.length _ hv b d
    unfold Oper.wp
    rw [List.length_nil] at hx
    simp [execOp, ho, resolve, invoke, builtin, hs, hx, hrun, Result.andThen]
    exact h v w (by simpa using hv) (World.grownBy.refl _ _)
  · obtain ⟨a', c', hv', _, _, hr⟩ := hu
    simp only [Value.slice.injEq] at hv'
    obtain ⟨rfl, _, rfl⟩ := hv'
    obtain ⟨g, off, rfl, _, hc⟩ := hr h0
    refine wp_append_own w s x 41 ho base 5 i0 (.int .u8 0) 1 1 Tryz.underlying41 hi hz0 hz1 hz2 rfl (by decide) v X.length _ hs hv ⟨g, off, none⟩ Y.length d (Y.flatMap byteC) hx (by rw [flat_len (C := byteC) (k := 1) (fun _ => rfl)]) (fun j y hy => ?_) (fun y hy => ?_) (by unfold maxLen; omega) (by omega) hb fun v' w' h1 h2 _ => h v' w' (by rw [List.length_append, List.flatMap_append]; exact h1) h2
    · rw [byte_flat, List.getElem?_map, Option.map_eq_some_iff] at hy
      obtain ⟨z, hz, rfl⟩ := hy
      have := hc j z 0 _ hz rfl
      rw [Addr.add_lit]
      show w.cell? _ = some (.int .u8 z.toNat)
      simpa using this
    · rw [byte_flat] at hy
      obtain ⟨q, _, rfl⟩ := List.mem_map.1 hy
      rfl
section
variable {w : World} {g off cap : Nat} {B : List UInt8}
theorem rdb_take (h : Rd byteC 1 w (.slice (some ⟨g, off, none⟩) B.length cap) B) (k : Nat) (hk : k ≤ B.length) : Rd byteC 1 w (.slice (some ⟨g, off, none⟩) (B.take k).length cap) (B.take k) := by
  obtain ⟨a, c, hv, hc, hm, hr⟩ := h
  simp only [Value.slice.injEq] at hv
  obtain ⟨rfl, _, rfl⟩ := hv
  have hl : (B.take k).length = k := by rw [List.length_take]; omega
  refine ⟨_, _, rfl, by omega, by omega, fun h0 => ?_⟩
  obtain ⟨g', off', e, hg, hcell⟩ := hr (by omega)
  refine ⟨g', off', e, hg, fun i x j u hi hj => hcell i x j u ?_ hj⟩
  rw [List.getElem?_take] at hi
  split at hi
  · exact hi
  · cases hi
theorem rdb_drop (h : Rd byteC 1 w (.slice (some ⟨g, off, none⟩) B.length cap) B) (k : Nat) (hk : k ≤ B.length) : Rd byteC 1 w (.slice (some ⟨g, off + k, none⟩) (B.drop k).length (cap - k)) (B.drop k) := by
  obtain ⟨a, c, hv, hc, hm, hr⟩ := h
  simp only [Value.slice.injEq] at hv
  obtain ⟨rfl, _, rfl⟩ := hv
  have hl : (B.drop k).length = B.length - k := by rw [List.length_drop]
  refine ⟨_, _, rfl, by omega, by omega, fun h0 => ?_⟩
  obtain ⟨g', off', e, hg, hcell⟩ := hr (by omega)
  simp only [Option.some.injEq, Addr.mk.injEq] at e
  obtain ⟨rfl, rfl, _⟩ := e
  refine ⟨_, _, rfl, hg, fun i x j u hi hj => ?_⟩
  rw [List.getElem?_drop] at hi
  have := hcell (k + i) x j u hi hj
  rw [show off + k + i * 1 + j = off + (k + i) * 1 + j by omega]
  exact this
theorem rdb_set (h : Rd byteC 1 w (.slice (some ⟨g, 0, none⟩) B.length cap) B) (i : Nat) (c : UInt8) : Rd byteC 1 (w.setCell ⟨g, i, none⟩ (.int .u8 c.toNat)) (.slice (some ⟨g, 0, none⟩) (B.set i c).length cap) (B.set i c) := by
  obtain ⟨a, cc, hv, hc, hm, hr⟩ := h
  simp only [Value.slice.injEq] at hv
  obtain ⟨rfl, _, rfl⟩ := hv
  refine ⟨_, _, rfl, by rw [List.length_set]; exact hc, by rw [List.length_set]; exact hm, fun h0 => ?_⟩
  rw [List.length_set] at h0
  obtain ⟨g', off', e, hg, hcell⟩ := hr h0
  simp only [Option.some.injEq, Addr.mk.injEq] at e
  obtain ⟨rfl, rfl, _⟩ := e
  refine ⟨_, _, rfl, by simpa [World.setCell] using hg, fun q x j u hq hj => ?_⟩
  match j, hj with
  | j + 1, hj => simp [byteC] at hj
  | 0, hj =>
    simp only [byteC, List.getElem?_cons_zero, Option.some.injEq] at hj
    subst hj
    rw [Nat.zero_add, Nat.mul_one, Nat.add_zero]
    have hlt : q < B.length := by have := (List.getElem?_eq_some_iff.1 hq).1; rwa [List.length_set] at this
    by_cases hqi : q = i
    · subst hqi
      rw [List.getElem?_set_self hlt] at hq
      obtain rfl := Option.some.inj hq
      have := hcell q (B[q]) 0 _ (List.getElem?_eq_getElem hlt) rfl
      rw [Nat.zero_add, Nat.mul_one, Nat.add_zero] at this
      exact World.cell?_setCell_same w _ _ this
    · rw [List.getElem?_set_ne (fun e => hqi e.symm)] at hq
      have := hcell q x 0 _ hq rfl
      rw [Nat.zero_add, Nat.mul_one, Nat.add_zero] at this
      refine (World.cell?_setCell_other w _ _ _ ?_).trans this
      intro e
      simp only [Addr.mk.injEq] at e
      exact hqi e.2.1.symm
theorem rdb_at (h : Rd byteC 1 w (.slice (some ⟨g, 0, none⟩) B.length cap) B) {i : Nat} (hi : i < B.length) : ∃ c : UInt8, w.cell? ⟨g, i, none⟩ = some (.int .u8 c.toNat) := by
  obtain ⟨a, cc, hv, hc, hm, hr⟩ := h
  simp only [Value.slice.injEq] at hv
  obtain ⟨rfl, _, rfl⟩ := hv
  obtain ⟨g', off', e, hg, hcell⟩ := hr (by omega)
  simp only [Option.some.injEq, Addr.mk.injEq] at e
  obtain ⟨rfl, rfl, _⟩ := e
  have := hcell i _ 0 _ (List.getElem?_eq_getElem hi) rfl
  rw [Nat.zero_add, Nat.mul_one, Nat.add_zero] at this
  exact ⟨_, this⟩
end
/-- Bytes that are read, as a text. -/
theorem conv_rdb {w : World} {g off : Nat} {cap : Nat} {B : List UInt8} (h : Rd byteC 1 w (.slice (some ⟨g, off, none⟩) B.length cap) B) :
    (convert 41 9 (.slice (some ⟨g, off, none⟩) B.length cap)).run Tryz.prog w = .ok (.string ⟨B.toArray⟩) w := by
  obtain ⟨a', cc, hv, hc, hm, hr⟩ := h
  simp only [Value.slice.injEq] at hv
  obtain ⟨rfl, _, rfl⟩ := hv
  refine run_convert_bytes_back (P := Tryz.prog) w _ _ 5 _ cap B Tryz.underlying41 Tryz.underlying5 Tryz.underlying9 (fun j hj => ?_)
  obtain ⟨g', off', e, hg, hcell⟩ := hr (by omega)
  simp only [Option.some.injEq, Addr.mk.injEq] at e
  obtain ⟨rfl, rfl, _⟩ := e
  have := hcell j _ 0 _ (List.getElem?_eq_getElem hj) rfl
  rw [Nat.mul_one, Nat.add_zero] at this
  rw [Addr.add_lit]
  exact this
theorem bytes_rd (w : World) (s : ByteArray) (hs : s.size ≤ 9223372036854775807) : Rd byteC 1 (Lib.bytesWorld w 5 s) (.slice (some ⟨w.heap.size, 0, none⟩) s.data.toList.length (grownCap w s.size 0 5)) s.data.toList := by
  have e : s.size = s.data.toList.length := Go.Proofs.YtacflahkofmcpaaGreatDoor.size_list s
  refine ⟨_, _, rfl, by rw [← e]; exact grownCap_ge _ _ _ _, by rw [← e]; exact hs, fun _ => ⟨_, _, rfl, by rw [Lib.bytesWorld_size]; omega, fun i x j u hi hj => ?_⟩⟩
  match j, hj with
  | j + 1, hj => simp [byteC] at hj
  | 0, hj =>
    simp only [byteC, List.getElem?_cons_zero, Option.some.injEq] at hj
    subst hj
    have hlt := (List.getElem?_eq_some_iff.1 hi).1
    have := Lib.bytesWorld_cell w 5 s i (by omega)
    rw [List.getD_eq_getElem?_getD, hi, Option.getD_some] at this
    rw [Nat.zero_add, Nat.mul_one, Nat.add_zero]
    exact this
theorem bytes_on (w : World) (s : ByteArray) : On w (Lib.bytesWorld w 5 s) := by
  refine ⟨rfl, rfl, rfl, by rw [Lib.bytesWorld_size]; omega, fun i hi => Lib.bytesWorld_at_old w _ s i hi⟩
theorem bytes_fr (w : World) (s : ByteArray) {j : Nat} (hj : j < s.size) : (Lib.bytesWorld w 5 s).frozen? ⟨w.heap.size, j, none⟩ = false := by
  have h : s.size ≤ (Lib.bytesCells w 5 s).size := by
    unfold Lib.bytesCells
    rw [Array.size_append, Array.size_map]
    show s.size ≤ s.data.size + _
    have : s.size = s.data.size := rfl
    omega
  simp only [World.frozen?, Lib.bytesWorld_at_new]
  simp
  omega
/-- An answer of Parse's kind, its cells told one by one. -/
def OpenT (w : World) (T : Go.Proofs.YtacflahkofmcpaaGreatDoor.TestT) (c p : Nat) (e : Ending) (w' : World) : Prop :=
  ∃ n a1 m1 c1 a2 m2 c2 k a3 m3 c3, e = .returned (.tuple #[.agg #[.string n, .slice a1 m1 c1, .slice a2 m2 c2, .int .i64 k, .slice a3 m3 c3], .agg #[.int .i64 c, .int .i64 p]]) ∧ Go.Proofs.YtacflahkofmcpaaGreatDoor.TestAt w' w.heap.size (.agg #[.string n, .slice a1 m1 c1, .slice a2 m2 c2, .int .i64 k, .slice a3 m3 c3]) T ∧ Go.Proofs.YtacflahkofmcpaaGreatDoor.On w w'
theorem open_at {w : World} {R : Go.Proofs.YtacflahkofmcpaaGreatDoor.TestT × Nat × Nat} (e : Ending) (w' : World) (hp : ParsePost w R e w') : OpenT w R.1 R.2.1 R.2.2 e w' := by
  obtain ⟨v, rfl, ht, k⟩ := hp
  obtain ⟨a1, m1, c1, a2, m2, c2, a3, m3, c3, rfl, _⟩ := id ht
  exact ⟨_, a1, m1, c1, a2, m2, c2, _, a3, m3, c3, rfl, ht, k⟩
theorem parse_at (s : ByteArray) (hs : s.size ≤ 140737488351232) (w : World) (hw : Go.Proofs.YtacflahkofmcpaaGreatDoor.Lw w) :
    Calls Tryz.prog 11 #[.string s] w (OpenT w (parseP s).1 (parseP s).2.1 (parseP s).2.2) := (parseGo_is s hs w hw).mono open_at
theorem tree_at (s : ByteArray) (hs : s.size ≤ 140737488351232) (w : World) :
    Calls Tryz.prog 13 #[.string s] w (OpenT w (parseP s).1 (parseP s).2.1 (parseP s).2.2) := (rtree_is w s hs).mono open_at
end Go.Proofs.YtacflahkofmcpaaGreatDoor.Wl

namespace Go.Proofs.YtacflahkofmcpaaGreatDoor.Wl
open Go.RowKit

def numT (n : Int) : ByteArray := ⟨(Lib.itoa n).toArray⟩
def regT (r : Int) : ByteArray := ⟨#[114, UInt8.ofNat (48 + r.toNat)]⟩
def locT (l : Int) : ByteArray := ⟨#[UInt8.ofNat l.toNat]⟩
def opdT (o : Opd) : ByteArray := if o.r < 0 then numT o.v else regT o.r
def sgnT (k : Int) : ByteArray := [⟨#[]⟩, ⟨#[43]⟩, ⟨#[45]⟩, ⟨#[42]⟩, ⟨#[38]⟩, ⟨#[124]⟩, ⟨#[94]⟩, ⟨#[60, 60]⟩, ⟨#[62, 62]⟩, ⟨#[61, 61]⟩, ⟨#[33, 61]⟩, ⟨#[60]⟩].getD k.toNat ⟨#[]⟩
def xEq : ByteArray := ⟨#[61]⟩
def xEnd : ByteArray := ⟨#[59]⟩
def xOp : ByteArray := ⟨#[123]⟩
def xCl : ByteArray := ⟨#[125]⟩
def xStore : ByteArray := ⟨#[115, 116, 111, 114, 101]⟩
def xLoad : ByteArray := ⟨#[108, 111, 97, 100]⟩
def xFence : ByteArray := ⟨#[102, 101, 110, 99, 101]⟩
def xCas : ByteArray := ⟨#[99, 97, 115]⟩
def xSkip : ByteArray := ⟨#[115, 107, 105, 112]⟩
def xIf : ByteArray := ⟨#[105, 102]⟩
def xEqs : ByteArray := ⟨#[61, 61]⟩
def xTst : ByteArray := ⟨#[116, 101, 115, 116]⟩
def xIni : ByteArray := ⟨#[105, 110, 105, 116]⟩
def xThr : ByteArray := ⟨#[116, 104, 114, 101, 97, 100]⟩
def xEx : ByteArray := ⟨#[101, 120, 105, 115, 116, 115]⟩
def xFa : ByteArray := ⟨#[102, 111, 114, 97, 108, 108]⟩
def xAnd : ByteArray := ⟨#[38]⟩
def xOr : ByteArray := ⟨#[124]⟩
def xCol : ByteArray := ⟨#[58]⟩

def iniTk (x : InitT) : List ByteArray := [locT x.l, xEq, numT x.v, xEnd]
def insTk (x : InsT) : List ByteArray :=
  if x.k == 1 then [xStore, locT x.l, opdT x.a, xEnd]
  else if x.k == 2 then [regT x.r, xEq, xLoad, locT x.l, xEnd]
  else if x.k == 3 then [xFence, xEnd]
  else if x.k == 4 then [regT x.r, xEq, xCas, locT x.l, opdT x.a, opdT x.b, xEnd]
  else if x.k == 6 then [xSkip, numT x.n, xIf, opdT x.a, xEqs, opdT x.b, xEnd]
  else if x.o == 0 then [regT x.r, xEq, opdT x.a, xEnd]
  else [regT x.r, xEq, opdT x.a, sgnT x.o, opdT x.b, xEnd]
def atomTk (x : AtomT) : List ByteArray := if x.t < 0 then [locT x.l, xEq, numT x.v] else [numT x.t, xCol, regT x.r, xEq, numT x.v]
def rowTk (ahead : ByteArray) : List AtomT → List ByteArray
  | [] => []
  | x :: r => ahead :: (atomTk x ++ rowTk xAnd r)
/-- What stands ahead of the next row: an empty row leaves the bar as well. -/
def anyTk (ahead : ByteArray) : List (List AtomT) → List ByteArray
  | [] => []
  | r :: rs => rowTk ahead r ++ anyTk xOr rs
def condTk (c : CondT) : List ByteArray := if c.k == 0 then [] else anyTk (if c.k == 1 then xEx else xFa) c.any ++ [xEnd]
def blockTk {α : Type} (head : ByteArray) (f : α → List ByteArray) (L : List α) : List ByteArray := [head, xOp] ++ L.flatMap f ++ [xCl]
def testTk (t : TestT) : List ByteArray :=
  [xTst, t.name, xOp] ++ (if 0 < t.ini.length then blockTk xIni iniTk t.ini else []) ++ t.thr.flatMap (blockTk xThr insTk) ++ condTk t.cond ++ [xCl]
def endTk (x : ByteArray) : Bool := x.data.toList == [123] || x.data.toList == [59] || x.data.toList == [125]
def gapB (x : ByteArray) : UInt8 := if endTk x then 10 else 32
def chunk (x : ByteArray) : List UInt8 := x.data.toList ++ [gapB x]
def textL (t : TestT) : List UInt8 := (testTk t).flatMap chunk

/-! Tokens: none is empty, and none but the three that end a line has such a byte, or a blank. -/
def isEnd (b : UInt8) : Bool := b == 123 || b == 59 || b == 125
def plainB (b : UInt8) : Bool := !(b == 10 || b == 32 || isEnd b)
def plainTk (x : ByteArray) : Bool := decide (0 < x.data.toList.length) && x.data.toList.all plainB
def goodTk (x : ByteArray) : Bool := plainTk x || endTk x
def fineL (s : List UInt8) : Prop := ∀ (i : Nat) (c : UInt8), s[i]? = some c → (c = 10 → ∃ d, 1 ≤ i ∧ s[i - 1]? = some d ∧ isEnd d = true) ∧ (c = 32 → ∃ d, 1 ≤ i ∧ s[i - 1]? = some d ∧ d ≠ 32 ∧ d ≠ 10)
theorem fine_nil : fineL [] := fun i c h => by simp at h
theorem fine_append {s t : List UInt8} (h : fineL s) (k : fineL t) : fineL (s ++ t) := by
  intro i c hc
  rcases Nat.lt_or_ge i s.length with hi | hi
  · rw [List.getElem?_append_left hi] at hc
    obtain ⟨h1, h2⟩ := h i c hc
    refine ⟨fun e => ?_, fun e => ?_⟩
    · obtain ⟨d, hd, he, hf⟩ := h1 e
      exact ⟨d, hd, by rw [List.getElem?_append_left (by omega)]; exact he, hf⟩
    · obtain ⟨d, hd, he, hf⟩ := h2 e
      exact ⟨d, hd, by rw [List.getElem?_append_left (by omega)]; exact he, hf⟩
  · rw [List.getElem?_append_right hi] at hc
    obtain ⟨h1, h2⟩ := k (i - s.length) c hc
    refine ⟨fun e => ?_, fun e => ?_⟩
    · obtain ⟨d, hd, he, hf⟩ := h1 e
      exact ⟨d, by omega, by rw [List.getElem?_append_right (by omega), show i - 1 - s.length = i - s.length - 1 by omega]; exact he, hf⟩
    · obtain ⟨d, hd, he, hf⟩ := h2 e
      exact ⟨d, by omega, by rw [List.getElem?_append_right (by omega), show i - 1 - s.length = i - s.length - 1 by omega]; exact he, hf⟩
theorem plain_no {b : UInt8} (h : plainB b = true) : b ≠ 10 ∧ b ≠ 32 ∧ isEnd b = false := by
  unfold plainB at h
  simp only [Bool.not_eq_true', Bool.or_eq_false_iff, beq_eq_false_iff_ne] at h
  exact ⟨h.1.1, h.1.2, h.2⟩
theorem plain_gap {x : ByteArray} (h : plainTk x = true) : gapB x = 32 := by
  unfold plainTk at h
  rw [Bool.and_eq_true, List.all_eq_true] at h
  unfold gapB
  rw [if_neg]
  intro hx
  unfold endTk at hx
  simp only [Bool.or_eq_true, beq_iff_eq] at hx
  rcases hx with (e | e) | e
  · exact absurd (h.2 123 (by rw [e]; decide)) (by decide)
  · exact absurd (h.2 59 (by rw [e]; decide)) (by decide)
  · exact absurd (h.2 125 (by rw [e]; decide)) (by decide)
theorem end_chunk {x : ByteArray} (h : endTk x = true) : chunk x = [123, 10] ∨ chunk x = [59, 10] ∨ chunk x = [125, 10] := by
  have hg : gapB x = 10 := by unfold gapB; rw [if_pos h]
  unfold endTk at h
  simp only [Bool.or_eq_true, beq_iff_eq] at h
  unfold chunk
  rw [hg]
  rcases h with (e | e) | e
  · exact Or.inl (by rw [e]; rfl)
  · exact Or.inr (Or.inl (by rw [e]; rfl))
  · exact Or.inr (Or.inr (by rw [e]; rfl))
theorem fine_chunk {x : ByteArray} (h : goodTk x = true) : fineL (chunk x) := by
  unfold goodTk at h
  rw [Bool.or_eq_true] at h
  rcases h with h | h
  · have hg := plain_gap h
    unfold plainTk at h
    rw [Bool.and_eq_true, List.all_eq_true, decide_eq_true_eq] at h
    obtain ⟨h0, h1⟩ := h
    intro i c hc
    unfold chunk at hc ⊢
    rw [hg] at hc ⊢
    rcases Nat.lt_or_ge i x.data.toList.length with hi | hi
    · rw [List.getElem?_append_left hi] at hc
      have := plain_no (h1 c (List.mem_of_getElem? hc))
      exact ⟨fun e => absurd e this.1, fun e => absurd e this.2.1⟩
    · rw [List.getElem?_append_right hi] at hc
      have hz : i - x.data.toList.length = 0 := by
        rcases Nat.eq_zero_or_pos (i - x.data.toList.length) with h | h
        · exact h
        · rw [List.getElem?_eq_none (by rw [List.length_singleton]; omega)] at hc
          cases hc
      rw [hz] at hc
      simp only [List.getElem?_cons_zero, Option.some.injEq] at hc
      subst hc
      have hl : (x.data.toList)[i - 1]? = some (x.data.toList[i - 1]'(by omega)) := List.getElem?_eq_getElem (by omega)
      have hp := plain_no (h1 _ (List.mem_of_getElem? hl))
      refine ⟨fun e => absurd e (by decide), fun _ => ⟨_, by omega, ?_, hp.2.1, hp.1⟩⟩
      rw [List.getElem?_append_left (by omega)]
      exact hl
  · have key : ∀ b : UInt8, isEnd b = true → b ≠ 10 → b ≠ 32 → fineL [b, 10] := by
      intro b hb h1 h2 i c hc
      match i, hc with
      | 0, hc =>
        simp only [List.getElem?_cons_zero, Option.some.injEq] at hc
        subst hc
        exact ⟨fun e => absurd e h1, fun e => absurd e h2⟩
      | 1, hc =>
        simp only [List.getElem?_cons_succ, List.getElem?_cons_zero, Option.some.injEq] at hc
        subst hc
        exact ⟨fun _ => ⟨b, by omega, rfl, hb⟩, fun e => absurd e (by decide)⟩
      | i + 2, hc => simp at hc
    rcases end_chunk h with e | e | e <;> rw [e]
    · exact key 123 (by decide) (by decide) (by decide)
    · exact key 59 (by decide) (by decide) (by decide)
    · exact key 125 (by decide) (by decide) (by decide)
theorem fine_text : ∀ L : List ByteArray, (∀ x ∈ L, goodTk x = true) → fineL (L.flatMap chunk)
  | [], _ => fine_nil
  | x :: L, h => by
    rw [List.flatMap_cons]
    exact fine_append (fine_chunk (h x (by simp))) (fine_text L fun y hy => h y (by simp [hy]))
/-- As many lines as bytes that end one. -/
def nlB (b : UInt8) : Bool := b == 10
theorem cnt_chunk {x : ByteArray} (h : goodTk x = true) : (chunk x).countP nlB = (chunk x).countP isEnd := by
  unfold goodTk at h
  rw [Bool.or_eq_true] at h
  rcases h with h | h
  · have hg := plain_gap h
    unfold plainTk at h
    rw [Bool.and_eq_true, List.all_eq_true] at h
    unfold chunk
    rw [hg, List.countP_append, List.countP_append]
    have z1 : x.data.toList.countP nlB = 0 := List.countP_eq_zero.2 fun b hb => by simpa [nlB] using (plain_no (h.2 b hb)).1
    have z2 : x.data.toList.countP isEnd = 0 := List.countP_eq_zero.2 fun b hb => by simpa using (plain_no (h.2 b hb)).2.2
    rw [z1, z2]
    decide
  · rcases end_chunk h with e | e | e <;> rw [e] <;> decide
theorem cnt_text : ∀ L : List ByteArray, (∀ x ∈ L, goodTk x = true) → (L.flatMap chunk).countP nlB = (L.flatMap chunk).countP isEnd
  | [], _ => rfl
  | x :: L, h => by
    rw [List.flatMap_cons, List.countP_append, List.countP_append, cnt_chunk (h x (by simp)), cnt_text L fun y hy => h y (by simp [hy])]
/-! Every token of a test that may be is a good one. -/
theorem plain_dig {d : Nat} (h : d < 10) : plainB (UInt8.ofNat (48 + d)) = true := by
  have : ∀ d : Fin 10, plainB (UInt8.ofNat (48 + d.val)) = true := by decide
  exact this ⟨d, h⟩
theorem plain_digits (u : Nat) : Lib.decDigits u ≠ [] ∧ ∀ c ∈ Lib.decDigits u, plainB c = true := by
  induction u using Nat.strongRecOn with
  | ind u ih =>
    rw [Lib.decDigits]
    split
    · rename_i h
      exact ⟨by simp, fun c hc => by rw [List.mem_singleton] at hc; subst hc; exact plain_dig h⟩
    · rename_i h
      refine ⟨by simp, fun c hc => ?_⟩
      rw [List.mem_append, List.mem_singleton] at hc
      rcases hc with hc | rfl
      · exact (ih (u / 10) (by omega)).2 c hc
      · exact plain_dig (Nat.mod_lt _ (by omega))
theorem good_num (n : Int) : goodTk (numT n) = true := by
  unfold goodTk plainTk numT
  rw [Bool.or_eq_true, Bool.and_eq_true, decide_eq_true_eq, List.all_eq_true]
  refine Or.inl ?_
  show 0 < (Lib.itoa n).length ∧ ∀ c ∈ Lib.itoa n, plainB c = true
  unfold Lib.itoa
  split
  · refine ⟨by simp, fun c hc => ?_⟩
    rw [List.mem_cons] at hc
    rcases hc with rfl | hc
    · decide
    · exact (plain_digits _).2 c hc
  · exact ⟨List.length_pos_iff.2 (plain_digits _).1, (plain_digits _).2⟩
theorem good_reg {r : Int} (h : regOk r = true) : goodTk (regT r) = true := by
  unfold regOk at h
  rw [Bool.and_eq_true, decide_eq_true_eq, decide_eq_true_eq] at h
  have : ∀ d : Fin 10, goodTk ⟨#[114, UInt8.ofNat (48 + d.val)]⟩ = true := by decide
  exact this ⟨r.toNat, by omega⟩
theorem good_loc {l : Int} (h : locOk l = true) : goodTk (locT l) = true := by
  unfold locOk at h
  rw [Bool.and_eq_true, decide_eq_true_eq, decide_eq_true_eq] at h
  have : ∀ d : Fin 26, goodTk ⟨#[UInt8.ofNat (97 + d.val)]⟩ = true := by decide
  have k := this ⟨(l - 97).toNat, by omega⟩
  unfold locT
  rw [show l.toNat = 97 + (l - 97).toNat by omega]
  exact k
theorem good_opd {o : Opd} (h : opdOk o = true) : goodTk (opdT o) = true := by
  unfold opdT
  split
  · exact good_num _
  · rename_i hr
    unfold opdOk at h
    rw [Bool.or_eq_true, Bool.and_eq_true, beq_iff_eq] at h
    rcases h with h | h
    · omega
    · exact good_reg h.2
theorem good_sgn {k : Int} (h : signOk k = true) : goodTk (sgnT k) = true := by
  unfold signOk at h
  rw [Bool.and_eq_true, decide_eq_true_eq, decide_eq_true_eq] at h
  have : ∀ d : Fin 11, goodTk (sgnT ((d.val : Int) + 1)) = true := by decide
  have k' := this ⟨(k - 1).toNat, by omega⟩
  rw [show (((k - 1).toNat : Nat) : Int) + 1 = k by omega] at k'
  exact k'
theorem good_ini {x : InitT} (h : initOk x = true) : ∀ y ∈ iniTk x, goodTk y = true := by
  intro y hy
  unfold iniTk at hy
  simp only [List.mem_cons, List.not_mem_nil, or_false] at hy
  rcases hy with rfl | rfl | rfl | rfl
  · exact good_loc h
  · decide
  · exact good_num _
  · decide
theorem good_ins {x : InsT} (h : insOk x = true) : ∀ y ∈ insTk x, goodTk y = true := by
  intro y hy
  unfold insOk at h
  unfold insTk at hy
  by_cases h1 : x.k = 1
  · simp only [h1, Bool.and_eq_true, beq_self_eq_true, if_true] at h hy
    simp only [List.mem_cons, List.not_mem_nil, or_false] at hy
    rcases hy with rfl | rfl | rfl | rfl
    · decide
    · exact good_loc h.1.2
    · exact good_opd h.2
    · decide
  by_cases h2 : x.k = 2
  · simp [h2] at h hy
    rcases hy with rfl | rfl | rfl | rfl | rfl
    · exact good_reg h.1.2
    · decide
    · decide
    · exact good_loc h.2
    · decide
  by_cases h3 : x.k = 3
  · simp [h3] at h hy
    rcases hy with rfl | rfl <;> decide
  by_cases h4 : x.k = 4
  · simp [h4] at h hy
    rcases hy with rfl | rfl | rfl | rfl | rfl | rfl | rfl
    · exact good_reg h.1.1.1.2
    · decide
    · decide
    · exact good_loc h.1.1.2
    · exact good_opd h.1.2
    · exact good_opd h.2
    · decide
  by_cases h5 : x.k = 5
  · simp [h5] at h hy
    obtain ⟨⟨⟨_, hr⟩, ha⟩, hs⟩ := h
    unfold secOk at hs
    by_cases h0 : x.o = 0
    · simp [h0] at hy
      rcases hy with rfl | rfl | rfl | rfl
      · exact good_reg hr
      · decide
      · exact good_opd ha
      · decide
    · simp [h0] at hs hy
      rcases hy with rfl | rfl | rfl | rfl | rfl | rfl
      · exact good_reg hr
      · decide
      · exact good_opd ha
      · exact good_sgn hs.1
      · exact good_opd hs.2
      · decide
  by_cases h6 : x.k = 6
  · simp [h6] at h hy
    rcases hy with rfl | rfl | rfl | rfl | rfl | rfl | rfl
    · decide
    · exact good_num _
    · decide
    · exact good_opd h.1.2
    · decide
    · exact good_opd h.2
    · decide
  simp [h1, h2, h3, h4, h5, h6] at h
theorem good_atom {x : AtomT} (h : atomOk x = true) : ∀ y ∈ atomTk x, goodTk y = true := by
  intro y hy
  unfold atomOk at h
  unfold atomTk at hy
  by_cases ht : x.t = -1
  · simp [ht] at h hy
    rcases hy with rfl | rfl | rfl
    · exact good_loc h.2
    · decide
    · exact good_num _
  · simp [ht] at h
    have hn : ¬ x.t < 0 := by omega
    simp [hn] at hy
    rcases hy with rfl | rfl | rfl | rfl | rfl
    · exact good_num _
    · decide
    · exact good_reg h.2
    · decide
    · exact good_num _
theorem good_row : ∀ (L : List AtomT) (a : ByteArray), goodTk a = true → L.all atomOk = true → ∀ y ∈ rowTk a L, goodTk y = true
  | [], _, _, _, y, hy => by simp [rowTk] at hy
  | x :: r, a, ha, h, y, hy => by
    rw [List.all_cons, Bool.and_eq_true] at h
    rw [rowTk, List.mem_cons, List.mem_append] at hy
    rcases hy with rfl | hy | hy
    · exact ha
    · exact good_atom h.1 y hy
    · exact good_row r xAnd (by decide) h.2 y hy
theorem good_any : ∀ (L : List (List AtomT)) (a : ByteArray), goodTk a = true → L.all rowOk = true → ∀ y ∈ anyTk a L, goodTk y = true
  | [], _, _, _, y, hy => by simp [anyTk] at hy
  | x :: r, a, ha, h, y, hy => by
    rw [List.all_cons, Bool.and_eq_true] at h
    rw [anyTk, List.mem_append] at hy
    rcases hy with hy | hy
    · unfold rowOk at h
      exact good_row x a ha (by have := h.1; rw [Bool.and_eq_true] at this; exact this.2) y hy
    · exact good_any r xOr (by decide) h.2 y hy
theorem good_cond {c : CondT} (h : condOk c = true) : ∀ y ∈ condTk c, goodTk y = true := by
  intro y hy
  unfold condOk at h
  unfold condTk at hy
  by_cases h0 : c.k = 0
  · simp [h0] at hy
  · have e0 : (c.k == 0) = false := by rw [beq_eq_false_iff_ne]; exact h0
    rw [e0] at h hy
    simp only [Bool.false_eq_true, if_false] at h hy
    rw [List.mem_append, List.mem_singleton] at hy
    rcases hy with hy | rfl
    · split at h
      · rw [Bool.and_eq_true] at h
        exact good_any c.any _ (by split <;> decide) h.2 y hy
      · cases h
    · decide
theorem good_block {α : Type} {f : α → List ByteArray} {L : List α} {hd : ByteArray} (hh : goodTk hd = true) (hf : ∀ x ∈ L, ∀ y ∈ f x, goodTk y = true) : ∀ y ∈ blockTk hd f L, goodTk y = true := by
  intro y hy
  unfold blockTk at hy
  simp only [List.mem_append, List.mem_cons, List.not_mem_nil, or_false, List.mem_flatMap] at hy
  rcases hy with ((rfl | rfl) | ⟨x, hx, hy⟩) | rfl
  · exact hh
  · decide
  · exact hf x hx y hy
  · decide
theorem plain_chs : ∀ (l : List UInt8) (i : Nat), chsOk i l = true → ∀ c ∈ l, plainB c = true
  | [], _, _, c, hc => by simp at hc
  | b :: r, i, h, c, hc => by
    rw [chsOk, Bool.and_eq_true] at h
    rw [List.mem_cons] at hc
    rcases hc with rfl | hc
    · have := h.1
      unfold chOk locOk at this
      simp only [Bool.or_eq_true, Bool.and_eq_true, decide_eq_true_eq] at this
      replace this := this.imp id And.right
      unfold plainB isEnd
      simp only [Bool.not_eq_true', Bool.or_eq_false_iff, beq_eq_false_iff_ne]
      refine ⟨⟨?_, ?_⟩, ⟨?_, ?_⟩, ?_⟩ <;> (rintro rfl; revert this; decide)
    · exact plain_chs r (i + 1) h.2 c hc
theorem good_name {s : ByteArray} (h : wordOk s = true) : goodTk s = true := by
  unfold wordOk at h
  rw [Bool.and_eq_true, decide_eq_true_eq] at h
  unfold goodTk plainTk
  rw [Bool.or_eq_true, Bool.and_eq_true, decide_eq_true_eq, List.all_eq_true]
  exact Or.inl ⟨by have := h.2; rw [ByteArray.size] at this; simpa using this, plain_chs _ 0 h.1⟩
theorem good_test {t : TestT} (h : testOk t = true) : ∀ y ∈ testTk t, goodTk y = true := by
  intro y hy
  unfold testOk at h
  simp only [Bool.and_eq_true, List.all_eq_true] at h
  obtain ⟨⟨⟨h1, h2⟩, h3⟩, h4⟩ := h
  unfold testTk at hy
  simp only [List.mem_append, List.mem_cons, List.not_mem_nil, or_false, List.mem_flatMap] at hy
  rcases hy with ((((rfl | rfl | rfl) | hy) | ⟨L, hL, hy⟩) | hy) | rfl
  · decide
  · exact good_name h1
  · decide
  · split at hy
    · exact good_block (by decide) (fun x hx => good_ini (h2 x hx)) y hy
    · simp at hy
  · have := h3 L hL
    unfold threadOk at this
    rw [List.all_eq_true] at this
    exact good_block (by decide) (fun x hx => good_ins (this x hx)) y hy
  · exact good_cond h4 y hy
  · decide
/-- What PrintLines looks for, of every test that may be. -/
theorem text_fine {t : TestT} (h : testOk t = true) : fineL (textL t) := fine_text _ (good_test h)
theorem text_cnt {t : TestT} (h : testOk t = true) : (textL t).countP nlB = (textL t).countP isEnd := cnt_text _ (good_test h)
theorem text_last (t : TestT) : ∃ r, textL t = r ++ [125, 10] := by
  unfold textL testTk
  rw [List.flatMap_append]
  exact ⟨_, rfl⟩
end Go.Proofs.YtacflahkofmcpaaGreatDoor.Wl
