/- The tables of numbers of library functions of this translation, as the shelf's contracts ask for them. No condition. -/
import Derived.Shelf.SlSortCmp.InsertionK
import Derived.Test.YtjcmbnmejkhcjaaProg
namespace Go.Proofs.Ytjcmbnmejkhcjaa
open Go.Shelf
def insL_ren : Go.Shelf.Ren := ⟨fun | 20 => 92 | n => n, fun | 24 => 44 | 22 => 41 | 3 => 3 | 25 => 98 | 4 => 4 | 0 => 0 | n => n, fun | n => n⟩
theorem insL : Go.Proofs.SlLaysF0.n20 Try.prog insL_ren := {
  mixed := by kernel_rfl
  f20 := ⟨Try.f92.name, by decide, Try.func92.trans (congrArg some (by kernel_rfl))⟩
  t0 := Try.underlying0
  a0 := Try.isAgg0
  z0 := Try.sizeOf0
  v0 := Try.zeroValue0
  t3 := Try.underlying3
  a3 := Try.isAgg3
  z3 := Try.sizeOf3
  v3 := Try.zeroValue3
  t4 := Try.underlying4
  a4 := Try.isAgg4
  z4 := Try.sizeOf4
  v4 := Try.zeroValue4
  t22 := Try.underlying41
  a22 := Try.isAgg41
  z22 := Try.sizeOf41
  v22 := Try.zeroValue41
  t25 := Try.underlying98
  a25 := Try.isAgg98
  z25 := Try.sizeOf98
  v25 := Try.zeroValue98 }
end Go.Proofs.Ytjcmbnmejkhcjaa
