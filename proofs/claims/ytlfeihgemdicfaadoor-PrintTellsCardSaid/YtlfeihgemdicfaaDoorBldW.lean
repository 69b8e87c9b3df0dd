/- strings.Builder at this program: WriteString, WriteByte, String. -/
import Derived.Test.YtlfeihgemdicfaaDoorShelfJoin
import Derived.Test.YtlfeihgemdicfaaDoorJ00OkLeaf
import Derived.Shelf.Strings.BuilderK
namespace Go.Proofs
open Go.Shelf Go.RowKit
def Tryd.bldRen : Go.Shelf.Ren := ⟨fun | 166 => 25 | 167 => 26 | 169 => 28 | 240 => 52 | 276 => 76 | n => n, Tryd.laysJoin_ren.t, fun n => n⟩
theorem Tryd.laysWS : Lays.n166 Tryd.prog Tryd.bldRen := {
  mixed := Tryd.laysJoin.mixed
  f166 := Tryd.func25.trans (congrArg some (by kernel_rfl))
  f240 := Tryd.func52.trans (congrArg some (by kernel_rfl))
  f276 := Tryd.func76.trans (congrArg some (by kernel_rfl))
  t0 := Tryd.laysJoin.t0
  a0 := Tryd.laysJoin.a0
  z0 := Tryd.laysJoin.z0
  v0 := Tryd.laysJoin.v0
  t3 := Tryd.laysJoin.t3
  a3 := Tryd.laysJoin.a3
  z3 := Tryd.laysJoin.z3
  v3 := Tryd.laysJoin.v3
  t4 := Tryd.laysJoin.t4
  a4 := Tryd.laysJoin.a4
  z4 := Tryd.laysJoin.z4
  v4 := Tryd.laysJoin.v4
  t9 := Tryd.laysJoin.t9
  a9 := Tryd.laysJoin.a9
  z9 := Tryd.laysJoin.z9
  v9 := Tryd.laysJoin.v9
  t20 := Tryd.laysJoin.t20
  a20 := Tryd.laysJoin.a20
  z20 := Tryd.laysJoin.z20
  v20 := Tryd.laysJoin.v20
  t37 := Tryd.laysJoin.t37
  a37 := Tryd.laysJoin.a37
  z37 := Tryd.laysJoin.z37
  v37 := Tryd.laysJoin.v37
  t70 := Tryd.laysJoin.t70
  a70 := Tryd.laysJoin.a70
  z70 := Tryd.laysJoin.z70
  v70 := Tryd.laysJoin.v70
  t72 := Tryd.laysJoin.t72
  a72 := Tryd.laysJoin.a72
  z72 := Tryd.laysJoin.z72
  v72 := Tryd.laysJoin.v72
  t75 := Tryd.laysJoin.t75
  a75 := Tryd.laysJoin.a75
  z75 := Tryd.laysJoin.z75
  v75 := Tryd.laysJoin.v75
  t164 := Tryd.laysJoin.t164
  a164 := Tryd.laysJoin.a164
  z164 := Tryd.laysJoin.z164
  v164 := Tryd.laysJoin.v164 }
theorem Tryd.laysWB : Lays.n167 Tryd.prog Tryd.bldRen := {
  mixed := Tryd.laysJoin.mixed
  f167 := Tryd.func26.trans (congrArg some (by kernel_rfl))
  f240 := Tryd.func52.trans (congrArg some (by kernel_rfl))
  f276 := Tryd.func76.trans (congrArg some (by kernel_rfl))
  t0 := Tryd.laysJoin.t0
  a0 := Tryd.laysJoin.a0
  z0 := Tryd.laysJoin.z0
  v0 := Tryd.laysJoin.v0
  t4 := Tryd.laysJoin.t4
  a4 := Tryd.laysJoin.a4
  z4 := Tryd.laysJoin.z4
  v4 := Tryd.laysJoin.v4
  t5 := Tryd.underlying5
  a5 := Tryd.isAgg5
  z5 := Tryd.sizeOf5
  v5 := Tryd.zeroValue5
  t9 := Tryd.laysJoin.t9
  a9 := Tryd.laysJoin.a9
  z9 := Tryd.laysJoin.z9
  v9 := Tryd.laysJoin.v9
  t20 := Tryd.laysJoin.t20
  a20 := Tryd.laysJoin.a20
  z20 := Tryd.laysJoin.z20
  v20 := Tryd.laysJoin.v20
  t37 := Tryd.laysJoin.t37
  a37 := Tryd.laysJoin.a37
  z37 := Tryd.laysJoin.z37
  v37 := Tryd.laysJoin.v37
  t70 := Tryd.laysJoin.t70
  a70 := Tryd.laysJoin.a70
  z70 := Tryd.laysJoin.z70
  v70 := Tryd.laysJoin.v70
  t72 := Tryd.laysJoin.t72
  a72 := Tryd.laysJoin.a72
  z72 := Tryd.laysJoin.z72
  v72 := Tryd.laysJoin.v72
  t75 := Tryd.laysJoin.t75
  a75 := Tryd.laysJoin.a75
  z75 := Tryd.laysJoin.z75
  v75 := Tryd.laysJoin.v75
  t164 := Tryd.laysJoin.t164
  a164 := Tryd.laysJoin.a164
  z164 := Tryd.laysJoin.z164
  v164 := Tryd.laysJoin.v164 }
theorem Tryd.laysSt : Lays.n169 Tryd.prog Tryd.bldRen := {
  mixed := Tryd.laysJoin.mixed
  f169 := Tryd.func28.trans (congrArg some (by kernel_rfl))
  t0 := Tryd.laysJoin.t0
  a0 := Tryd.laysJoin.a0
  z0 := Tryd.laysJoin.z0
  v0 := Tryd.laysJoin.v0
  t3 := Tryd.laysJoin.t3
  a3 := Tryd.laysJoin.a3
  z3 := Tryd.laysJoin.z3
  v3 := Tryd.laysJoin.v3
  t9 := Tryd.laysJoin.t9
  a9 := Tryd.laysJoin.a9
  z9 := Tryd.laysJoin.z9
  v9 := Tryd.laysJoin.v9
  t37 := Tryd.laysJoin.t37
  a37 := Tryd.laysJoin.a37
  z37 := Tryd.laysJoin.z37
  v37 := Tryd.laysJoin.v37
  t70 := Tryd.laysJoin.t70
  a70 := Tryd.laysJoin.a70
  z70 := Tryd.laysJoin.z70
  v70 := Tryd.laysJoin.v70
  t72 := Tryd.laysJoin.t72
  a72 := Tryd.laysJoin.a72
  z72 := Tryd.laysJoin.z72
  v72 := Tryd.laysJoin.v72
  t127 := Tryd.laysJoin.t127
  a127 := Tryd.laysJoin.a127
  z127 := Tryd.laysJoin.z127
  v127 := Tryd.laysJoin.v127 }
theorem Tryd.extraBld : Builder.Extra Tryd.prog Tryd.bldRen where
  sizeBuilder := by kernel_rfl
  liesBuilder := by kernel_rfl
  t5 := Tryd.underlying5
  a5 := Tryd.isAgg5
  z5 := Tryd.sizeOf5
  v5 := Tryd.zeroValue5
  infoByte := by kernel_rfl
  cellsByte := by kernel_rfl
  sizeByte := by kernel_rfl
  neB5 := by decide
end Go.Proofs
namespace Go.Proofs.YtlfeihgemdicfaaDoor
open Go.RowKit

abbrev Bld (B : Nat) (l : List UInt8) (w : World) : Prop := Lib.IsBuilderF 59 5 B B (Lib.byteCells l) w
abbrev Oth (B : Nat) (w w' : World) : Prop := Lib.OthersKept 5 (some B) w w'
theorem ws_is (B : Nat) (l : List UInt8) (s : ByteArray) (w : World) (h : Bld B l w) (hlen : l.length + s.data.toList.length ≤ 140737488355328) (hB : B ≤ w.heap.size) :
    Calls Tryd.prog 25 #[.pointer (some ⟨B, 0, none⟩), .string s] w fun e w' => ∃ v, e = .returned v ∧ Bld B (l ++ s.data.toList) w' ∧ Below B w w' ∧ Oth B w w' := by
  have := Any.Builder_WriteString_k Tryd.laysWS Tryd.extraBld B B (Lib.byteCells l) s w h (by rw [Lib.byteCells_length]; simpa using hlen) hB
  refine this.mono ?_
  rintro e w' ⟨rfl, h1, h2, h3⟩
  refine ⟨_, rfl, Or.inr ?_, h2, h3⟩
  rw [Lib.byteCells_append, ← Lib.strCells_eq]
  exact h1
theorem wb_is (B : Nat) (l : List UInt8) (c : UInt8) (w : World) (h : Bld B l w) (hlen : l.length + 1 ≤ 140737488355328) (hB : B ≤ w.heap.size) :
    Calls Tryd.prog 26 #[.pointer (some ⟨B, 0, none⟩), .int .u8 c.toNat] w fun e w' => ∃ v, e = .returned v ∧ Bld B (l ++ [c]) w' ∧ Below B w w' ∧ Oth B w w' := by
  have := Any.Builder_WriteByte_k Tryd.laysWB Tryd.extraBld B B (Lib.byteCells l) c.toNat w h (by rw [Lib.byteCells_length]; exact hlen) hB
  refine this.mono ?_
  rintro e w' ⟨rfl, h1, h2, h3⟩
  refine ⟨_, rfl, Or.inr ?_, h2, h3⟩
  rw [Lib.byteCells_append]
  exact h1
theorem bstr_is (B : Nat) (l : List UInt8) (w : World) (h : Bld B l w) (hB : B ≤ w.heap.size) :
    Calls Tryd.prog 28 #[.pointer (some ⟨B, 0, none⟩)] w fun e w' => e = .returned (.string ⟨l.toArray⟩) ∧ Below B w w' := by
  have := Any.Builder_String_any_k Tryd.laysSt Tryd.extraBld B B l w h hB
  refine this.mono ?_
  rintro e w' ⟨rfl, _, h2, _⟩
  exact ⟨rfl, h2⟩
theorem bld_new {w : World} {B : Nat} (h : w.heap[B]? = some (.cells #[.pointer none, .slice none 0 0] 59 (0, 0))) : Bld B [] w :=
  Lib.IsBuilderF.of (Or.inl ⟨Nat.le_refl _, .slice none 0 0, h, World.ownsRow_nil _ _ _ _, by simp [Value.ownBlock]⟩)
end Go.Proofs.YtlfeihgemdicfaaDoor
