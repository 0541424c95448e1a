/-
  The body of a function of Go's library (utf8.DecodeRune), laid at this dump by the kit's own tools.
-/
import Derived.Shelf.Lays7
import Derived.Test.YtdolekmifnenhaaDoorProg
namespace Go.Proofs
open Go.Shelf
def Tryd.lays32_ren : Go.Shelf.Ren := ⟨fun | 32 => 20 | 49 => 21 | n => n, fun | 30 => 32 | 21 => 21 | 3 => 3 | 0 => 0 | 5 => 5 | 4 => 4 | 33 => 43 | 66 => 45 | 25 => 49 | 69 => 48 | 68 => 47 | n => n, fun | 2 => 0 | 3 => 1 | n => n⟩
theorem Tryd.lays32 : Go.Proofs.Lays7.n32 Tryd.prog Tryd.lays32_ren := {
  mixed := by kernel_rfl
  f32 := Tryd.func20.trans (congrArg some (by kernel_rfl))
  f49 := Tryd.func21.trans (congrArg some (by kernel_rfl))
  t0 := Tryd.underlying0
  a0 := Tryd.isAgg0
  z0 := Tryd.sizeOf0
  v0 := Tryd.zeroValue0
  i0 := by kernel_rfl
  t3 := Tryd.underlying3
  a3 := Tryd.isAgg3
  z3 := Tryd.sizeOf3
  v3 := Tryd.zeroValue3
  i3 := by kernel_rfl
  t4 := Tryd.underlying4
  a4 := Tryd.isAgg4
  z4 := Tryd.sizeOf4
  v4 := Tryd.zeroValue4
  i4 := by kernel_rfl
  t5 := Tryd.underlying5
  a5 := Tryd.isAgg5
  z5 := Tryd.sizeOf5
  v5 := Tryd.zeroValue5
  i5 := by kernel_rfl
  t21 := Tryd.underlying21
  a21 := Tryd.isAgg21
  z21 := Tryd.sizeOf21
  v21 := Tryd.zeroValue21
  i21 := by kernel_rfl
  t25 := Tryd.underlying49
  a25 := Tryd.isAgg49
  z25 := Tryd.sizeOf49
  v25 := Tryd.zeroValue49
  i25 := by kernel_rfl
  t30 := Tryd.underlying32
  a30 := Tryd.isAgg32
  z30 := Tryd.sizeOf32
  v30 := Tryd.zeroValue32
  i30 := by kernel_rfl
  t33 := Tryd.underlying43
  a33 := Tryd.isAgg43
  z33 := Tryd.sizeOf43
  v33 := Tryd.zeroValue43
  i33 := by kernel_rfl
  t66 := Tryd.underlying45
  a66 := Tryd.isAgg45
  z66 := Tryd.sizeOf45
  t68 := Tryd.underlying47
  a68 := Tryd.isAgg47
  z68 := Tryd.sizeOf47
  v68 := Tryd.zeroValue47
  i68 := by kernel_rfl
  t69 := Tryd.underlying48
  a69 := Tryd.isAgg48
  z69 := Tryd.sizeOf48
  v69 := Tryd.zeroValue48
  i69 := by kernel_rfl
  g2 := by kernel_rfl
  g3 := by kernel_rfl }
end Go.Proofs
