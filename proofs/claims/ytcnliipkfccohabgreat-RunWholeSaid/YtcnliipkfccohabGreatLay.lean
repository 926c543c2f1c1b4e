/- The tables of numbers of library functions of this translation, as the shelf's contracts ask for them. No condition. -/
import Derived.Shelf.SlicesG.SearchI
import Derived.Test.YtcnliipkfccohabGreatProg
namespace Go.Proofs.YtcnliipkfccohabGreat
open Go.Shelf
def srcI_ren : Go.Shelf.Ren := ⟨fun | 49 => 33 | 59 => 57 | 60 => 58 | 68 => 73 | n => n, fun | 22 => 69 | 23 => 3 | 3 => 3 | 4 => 4 | 51 => 100 | 0 => 0 | n => n, fun | n => n⟩
theorem srcI : Go.Proofs.SlLaysN.n49 Tryz.prog srcI_ren := {
  mixed := by kernel_rfl
  f49 := ⟨Tryz.f33.name, by decide, Tryz.func33.trans (congrArg some (by kernel_rfl))⟩
  f59 := ⟨Tryz.f57.name, by decide, Tryz.func57.trans (congrArg some (by kernel_rfl))⟩
  f60 := ⟨Tryz.f58.name, by decide, Tryz.func58.trans (congrArg some (by kernel_rfl))⟩
  f68 := ⟨Tryz.f73.name, by decide, Tryz.func73.trans (congrArg some (by kernel_rfl))⟩
  t0 := Tryz.underlying0
  a0 := Tryz.isAgg0
  z0 := Tryz.sizeOf0
  v0 := Tryz.zeroValue0
  t3 := Tryz.underlying3
  a3 := Tryz.isAgg3
  z3 := Tryz.sizeOf3
  v3 := Tryz.zeroValue3
  t4 := Tryz.underlying4
  a4 := Tryz.isAgg4
  z4 := Tryz.sizeOf4
  v4 := Tryz.zeroValue4
  t22 := Tryz.underlying69
  a22 := Tryz.isAgg69
  z22 := Tryz.sizeOf69
  v22 := Tryz.zeroValue69
  t23 := Tryz.underlying3
  a23 := Tryz.isAgg3
  z23 := Tryz.sizeOf3
  v23 := Tryz.zeroValue3
  t51 := Tryz.underlying100
  a51 := Tryz.isAgg100
  z51 := Tryz.sizeOf100
  v51 := Tryz.zeroValue100 }
end Go.Proofs.YtcnliipkfccohabGreat
