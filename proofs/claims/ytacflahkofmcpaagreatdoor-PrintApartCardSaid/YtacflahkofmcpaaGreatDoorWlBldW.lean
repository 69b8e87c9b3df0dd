/- strings.Builder at this program: WriteString, WriteByte, String. -/
import Derived.Test.YtacflahkofmcpaaGreatDoorShelfJoin
import Derived.Test.YtacflahkofmcpaaGreatDoorJ09WlOwnR
import Derived.Shelf.Strings.BuilderK
namespace Go.Proofs
open Go.Shelf Go.RowKit
def Tryz.bldRen : Go.Shelf.Ren := ⟨fun | 166 => 46 | 167 => 47 | 169 => 49 | 240 => 94 | 276 => 138 | n => n, Tryz.laysJoin_ren.t, fun n => n⟩
theorem Tryz.laysWS : Lays.n166 Tryz.prog Tryz.bldRen := {
  mixed := Tryz.laysJoin.mixed
  f166 := Tryz.func46.trans (congrArg some (by kernel_rfl))
  f240 := Tryz.func94.trans (congrArg some (by kernel_rfl))
  f276 := Tryz.func138.trans (congrArg some (by kernel_rfl))
  t0 := Tryz.laysJoin.t0
  a0 := Tryz.laysJoin.a0
  z0 := Tryz.laysJoin.z0
  v0 := Tryz.laysJoin.v0
  t3 := Tryz.laysJoin.t3
  a3 := Tryz.laysJoin.a3
  z3 := Tryz.laysJoin.z3
  v3 := Tryz.laysJoin.v3
  t4 := Tryz.laysJoin.t4
  a4 := Tryz.laysJoin.a4
  z4 := Tryz.laysJoin.z4
  v4 := Tryz.laysJoin.v4
  t9 := Tryz.laysJoin.t9
  a9 := Tryz.laysJoin.a9
  z9 := Tryz.laysJoin.z9
  v9 := Tryz.laysJoin.v9
  t20 := Tryz.laysJoin.t20
  a20 := Tryz.laysJoin.a20
  z20 := Tryz.laysJoin.z20
  v20 := Tryz.laysJoin.v20
  t37 := Tryz.laysJoin.t37
  a37 := Tryz.laysJoin.a37
  z37 := Tryz.laysJoin.z37
  v37 := Tryz.laysJoin.v37
  t70 := Tryz.laysJoin.t70
  a70 := Tryz.laysJoin.a70
  z70 := Tryz.laysJoin.z70
  v70 := Tryz.laysJoin.v70
  t72 := Tryz.laysJoin.t72
  a72 := Tryz.laysJoin.a72
  z72 := Tryz.laysJoin.z72
  v72 := Tryz.laysJoin.v72
  t75 := Tryz.laysJoin.t75
  a75 := Tryz.laysJoin.a75
  z75 := Tryz.laysJoin.z75
  v75 := Tryz.laysJoin.v75
  t164 := Tryz.laysJoin.t164
  a164 := Tryz.laysJoin.a164
  z164 := Tryz.laysJoin.z164
  v164 := Tryz.laysJoin.v164 }
theorem Tryz.laysWB : Lays.n167 Tryz.prog Tryz.bldRen := {
  mixed := Tryz.laysJoin.mixed
  f167 := Tryz.func47.trans (congrArg some (by kernel_rfl))
  f240 := Tryz.func94.trans (congrArg some (by kernel_rfl))
  f276 := Tryz.func138.trans (congrArg some (by kernel_rfl))
  t0 := Tryz.laysJoin.t0
  a0 := Tryz.laysJoin.a0
  z0 := Tryz.laysJoin.z0
  v0 := Tryz.laysJoin.v0
  t4 := Tryz.laysJoin.t4
  a4 := Tryz.laysJoin.a4
  z4 := Tryz.laysJoin.z4
  v4 := Tryz.laysJoin.v4
  t5 := Tryz.underlying5
  a5 := Tryz.isAgg5
  z5 := Tryz.sizeOf5
  v5 := Tryz.zeroValue5
  t9 := Tryz.laysJoin.t9
  a9 := Tryz.laysJoin.a9
  z9 := Tryz.laysJoin.z9
  v9 := Tryz.laysJoin.v9
  t20 := Tryz.laysJoin.t20
  a20 := Tryz.laysJoin.a20
  z20 := Tryz.laysJoin.z20
  v20 := Tryz.laysJoin.v20
  t37 := Tryz.laysJoin.t37
  a37 := Tryz.laysJoin.a37
  z37 := Tryz.laysJoin.z37
  v37 := Tryz.laysJoin.v37
  t70 := Tryz.laysJoin.t70
  a70 := Tryz.laysJoin.a70
  z70 := Tryz.laysJoin.z70
  v70 := Tryz.laysJoin.v70
  t72 := Tryz.laysJoin.t72
  a72 := Tryz.laysJoin.a72
  z72 := Tryz.laysJoin.z72
  v72 := Tryz.laysJoin.v72
  t75 := Tryz.laysJoin.t75
  a75 := Tryz.laysJoin.a75
  z75 := Tryz.laysJoin.z75
  v75 := Tryz.laysJoin.v75
  t164 := Tryz.laysJoin.t164
  a164 := Tryz.laysJoin.a164
  z164 := Tryz.laysJoin.z164
  v164 := Tryz.laysJoin.v164 }
theorem Tryz.laysSt : Lays.n169 Tryz.prog Tryz.bldRen := {
  mixed := Tryz.laysJoin.mixed
  f169 := Tryz.func49.trans (congrArg some (by kernel_rfl))
  t0 := Tryz.laysJoin.t0
  a0 := Tryz.laysJoin.a0
  z0 := Tryz.laysJoin.z0
  v0 := Tryz.laysJoin.v0
  t3 := Tryz.laysJoin.t3
  a3 := Tryz.laysJoin.a3
  z3 := Tryz.laysJoin.z3
  v3 := Tryz.laysJoin.v3
  t9 := Tryz.laysJoin.t9
  a9 := Tryz.laysJoin.a9
  z9 := Tryz.laysJoin.z9
  v9 := Tryz.laysJoin.v9
  t37 := Tryz.laysJoin.t37
  a37 := Tryz.laysJoin.a37
  z37 := Tryz.laysJoin.z37
  v37 := Tryz.laysJoin.v37
  t70 := Tryz.laysJoin.t70
  a70 := Tryz.laysJoin.a70
  z70 := Tryz.laysJoin.z70
  v70 := Tryz.laysJoin.v70
  t72 := Tryz.laysJoin.t72
  a72 := Tryz.laysJoin.a72
  z72 := Tryz.laysJoin.z72
  v72 := Tryz.laysJoin.v72
  t127 := Tryz.laysJoin.t127
  a127 := Tryz.laysJoin.a127
  z127 := Tryz.laysJoin.z127
  v127 := Tryz.laysJoin.v127 }
theorem Tryz.extraBld : Builder.Extra Tryz.prog Tryz.bldRen where
  sizeBuilder := by kernel_rfl
  liesBuilder := by kernel_rfl
  t5 := Tryz.underlying5
  a5 := Tryz.isAgg5
  z5 := Tryz.sizeOf5
  v5 := Tryz.zeroValue5
  infoByte := by kernel_rfl
  cellsByte := by kernel_rfl
  sizeByte := by kernel_rfl
  neB5 := by decide
end Go.Proofs
namespace Go.Proofs.YtacflahkofmcpaaGreatDoor.Wl
open Go.RowKit

abbrev Bld (B : Nat) (l : List UInt8) (w : World) : Prop := Lib.IsBuilderF 89 5 B B (Lib.byteCells l) w
abbrev Oth (B : Nat) (w w' : World) : Prop := Lib.OthersKept 5 (some B) w w'
theorem ws_is (B : Nat) (l : List UInt8) (s : ByteArray) (w : World) (h : Bld B l w) (hlen : l.length + s.data.toList.length ≤ 140737488355328) (hB : B ≤ w.heap.size) :
    Calls Tryz.prog 46 #[.pointer (some ⟨B, 0, none⟩), .string s] w fun e w' => ∃ v, e = .returned v ∧ Bld B (l ++ s.data.toList) w' ∧ Below B w w' ∧ Oth B w w' := by
  have := Any.Builder_WriteString_k Tryz.laysWS Tryz.extraBld B B (Lib.byteCells l) s w h (by rw [Lib.byteCells_length]; simpa using hlen) hB
  refine this.mono ?_
  rintro e w' ⟨rfl, h1, h2, h3⟩
  refine ⟨_, rfl, Or.inr ?_, h2, h3⟩
  rw [Lib.byteCells_append, ← Lib.strCells_eq]
  exact h1
theorem wb_is (B : Nat) (l : List UInt8) (c : UInt8) (w : World) (h : Bld B l w) (hlen : l.length + 1 ≤ 140737488355328) (hB : B ≤ w.heap.size) :
    Calls Tryz.prog 47 #[.pointer (some ⟨B, 0, none⟩), .int .u8 c.toNat] w fun e w' => ∃ v, e = .returned v ∧ Bld B (l ++ [c]) w' ∧ Below B w w' ∧ Oth B w w' := by
  have := Any.Builder_WriteByte_k Tryz.laysWB Tryz.extraBld B B (Lib.byteCells l) c.toNat w h (by rw [Lib.byteCells_length]; exact hlen) hB
  refine this.mono ?_
  rintro e w' ⟨rfl, h1, h2, h3⟩
  refine ⟨_, rfl, Or.inr ?_, h2, h3⟩
  rw [Lib.byteCells_append]
  exact h1
theorem bstr_is (B : Nat) (l : List UInt8) (w : World) (h : Bld B l w) (hB : B ≤ w.heap.size) :
    Calls Tryz.prog 49 #[.pointer (some ⟨B, 0, none⟩)] w fun e w' => e = .returned (.string ⟨l.toArray⟩) ∧ Below B w w' := by
  have := Any.Builder_String_any_k Tryz.laysSt Tryz.extraBld B B l w h hB
  refine this.mono ?_
  rintro e w' ⟨rfl, _, h2, _⟩
  exact ⟨rfl, h2⟩
theorem bld_new {w : World} {B : Nat} (h : w.heap[B]? = some (.cells #[.pointer none, .slice none 0 0] 89 (0, 0))) : Bld B [] w :=
  Lib.IsBuilderF.of (Or.inl ⟨Nat.le_refl _, .slice none 0 0, h, World.ownsRow_nil _ _ _ _, by simp [Value.ownBlock]⟩)
end Go.Proofs.YtacflahkofmcpaaGreatDoor.Wl
