/- The tables of numbers of library functions of this translation, as the shelf's contracts ask for them. No condition. -/
import Derived.Shelf.SlicesG.SearchI
import Derived.Test.YtcnliipkfccohaaGreatProg
namespace Go.Proofs.YtcnliipkfccohaaGreat
open Go.Shelf
def srcI_ren : Go.Shelf.Ren := ⟨fun | 49 => 69 | 59 => 98 | 60 => 99 | 68 => 133 | n => n, fun | 22 => 54 | 23 => 3 | 3 => 3 | 4 => 4 | 51 => 85 | 0 => 0 | n => n, fun | n => n⟩
theorem srcI : Go.Proofs.SlLaysN.n49 Tryz.prog srcI_ren := {
  mixed := by kernel_rfl
  f49 := ⟨Tryz.f69.name, by decide, Tryz.func69.trans (congrArg some (by kernel_rfl))⟩
  f59 := ⟨Tryz.f98.name, by decide, Tryz.func98.trans (congrArg some (by kernel_rfl))⟩
  f60 := ⟨Tryz.f99.name, by decide, Tryz.func99.trans (congrArg some (by kernel_rfl))⟩
  f68 := ⟨Tryz.f133.name, by decide, Tryz.func133.trans (congrArg some (by kernel_rfl))⟩
  t0 := Tryz.underlying0
  a0 := Tryz.isAgg0
  z0 := Tryz.sizeOf0
  v0 := Tryz.zeroValue0
  t3 := Tryz.underlying3
  a3 := Tryz.isAgg3
  z3 := Tryz.sizeOf3
  v3 := Tryz.zeroValue3
  t4 := Tryz.underlying4
  a4 := Tryz.isAgg4
  z4 := Tryz.sizeOf4
  v4 := Tryz.zeroValue4
  t22 := Tryz.underlying54
  a22 := Tryz.isAgg54
  z22 := Tryz.sizeOf54
  v22 := Tryz.zeroValue54
  t23 := Tryz.underlying3
  a23 := Tryz.isAgg3
  z23 := Tryz.sizeOf3
  v23 := Tryz.zeroValue3
  t51 := Tryz.underlying85
  a51 := Tryz.isAgg85
  z51 := Tryz.sizeOf85
  v51 := Tryz.zeroValue85 }
end Go.Proofs.YtcnliipkfccohaaGreat
