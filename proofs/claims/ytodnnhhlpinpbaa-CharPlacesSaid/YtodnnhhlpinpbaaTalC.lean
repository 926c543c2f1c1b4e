/- Contracts of the reference's Of and Upto, and of the layer's awake. -/
import Derived.Test.YtodnnhhlpinpbaaTalB
import Derived.Test.YtodnnhhlpinpbaaLow
namespace Go.Proofs.Ytodnnhhlpinpbaa
open Go.ChangeShapes Go.WideShapes Go.ChangeAt Go.RowKit

theorem tal_ex : talOf [97, 10, 240, 159, 152, 128] = .agg #[.int .i64 6, .int .i64 1, .int .i64 3, .int .i64 4] := by kernel_rfl
theorem upto_ex : upto 3 0 [97, 10, 98] = 1 := by decide +kernel
end Go.Proofs.Ytodnnhhlpinpbaa
