/- The tables of numbers of library functions of this translation, as the shelf's contracts ask for them. No condition. -/
import Derived.Shelf.SlSortCmp.InsertionK
import Derived.Test.YtjcmbnmejkhcjaaGreatProg
namespace Go.Proofs.YtjcmbnmejkhcjaaGreat
open Go.Shelf
def insL_ren : Go.Shelf.Ren := ⟨fun | 20 => 96 | n => n, fun | 24 => 33 | 22 => 22 | 3 => 3 | 25 => 93 | 4 => 4 | 0 => 0 | n => n, fun | n => n⟩
theorem insL : Go.Proofs.SlLaysF0.n20 Tryz.prog insL_ren := {
  mixed := by kernel_rfl
  f20 := ⟨Tryz.f96.name, by decide, Tryz.func96.trans (congrArg some (by kernel_rfl))⟩
  t0 := Tryz.underlying0
  a0 := Tryz.isAgg0
  z0 := Tryz.sizeOf0
  v0 := Tryz.zeroValue0
  t3 := Tryz.underlying3
  a3 := Tryz.isAgg3
  z3 := Tryz.sizeOf3
  v3 := Tryz.zeroValue3
  t4 := Tryz.underlying4
  a4 := Tryz.isAgg4
  z4 := Tryz.sizeOf4
  v4 := Tryz.zeroValue4
  t22 := Tryz.underlying22
  a22 := Tryz.isAgg22
  z22 := Tryz.sizeOf22
  v22 := Tryz.zeroValue22
  t25 := Tryz.underlying93
  a25 := Tryz.isAgg93
  z25 := Tryz.sizeOf93
  v25 := Tryz.zeroValue93 }
end Go.Proofs.YtjcmbnmejkhcjaaGreat
