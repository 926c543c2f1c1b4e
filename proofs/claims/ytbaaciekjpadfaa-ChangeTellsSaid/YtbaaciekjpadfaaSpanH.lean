/- The small contracts once more, with the answer told ahead. No condition. -/
import Derived.Test.YtbaaciekjpadfaaSpanG
import Derived.Test.YtbaaciekjpadfaaSpanArgs
namespace Go.Proofs.Ytbaaciekjpadfaa
open Go.ChangeShapes Go.WideShapes Go.ChangeAt Go.RowKit
open SpanM
section
variable (a b : Sp) (n : Int) (r : Bool) (w : World)
theorem c1 (h : mayB a n = r) : Calls Try.prog 36 #[.agg #[.int .i64 a.1, .int .i64 a.2], .int .i64 n] w fun e w' => e = .returned (.bool r) ∧ Below w.heap.size w w' := by subst h; exact may_any a n w
theorem c2 (h : mayB a n = r) : Calls Try.prog 50 #[.agg #[.int .i64 a.1, .int .i64 a.2], .int .i64 n] w fun e w' => e = .returned (.bool r) ∧ Below w.heap.size w w' := by subst h; exact rmay_any a n w
end
end Go.Proofs.Ytbaaciekjpadfaa
