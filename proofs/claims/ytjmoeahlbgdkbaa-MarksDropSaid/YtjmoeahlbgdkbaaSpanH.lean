/- The small contracts once more, with the answer told ahead. No condition. -/
import Derived.Test.YtjmoeahlbgdkbaaSpanG
import Derived.Test.YtjmoeahlbgdkbaaSpanArgs
namespace Go.Proofs.Ytjmoeahlbgdkbaa
open Go.ChangeShapes Go.WideShapes Go.ChangeAt Go.RowKit
open SpanM
section
variable (a b : Sp) (n : Int) (r : Bool) (w : World)
theorem c1 (h : mayB a n = r) : Calls Try.prog 47 #[.agg #[.int .i64 a.1, .int .i64 a.2], .int .i64 n] w fun e w' => e = .returned (.bool r) ∧ Below w.heap.size w w' := by subst h; exact may_any a n w
theorem c2 (h : mayB a n = r) : Calls Try.prog 55 #[.agg #[.int .i64 a.1, .int .i64 a.2], .int .i64 n] w fun e w' => e = .returned (.bool r) ∧ Below w.heap.size w w' := by subst h; exact rmay_any a n w
theorem c3 (h : hasB a n = r) : Calls Try.prog 45 #[.agg #[.int .i64 a.1, .int .i64 a.2], .int .i64 n] w fun e w' => e = .returned (.bool r) ∧ Below w.heap.size w w' := by subst h; exact has_any a n w
theorem c4 (h : hasB a n = r) : Calls Try.prog 61 #[.agg #[.int .i64 a.1, .int .i64 a.2], .int .i64 n] w fun e w' => e = .returned (.bool r) ∧ Below w.heap.size w w' := by subst h; exact rhas_any a n w
theorem c5 (h : withinB a b = r) : Calls Try.prog 48 #[.agg #[.int .i64 a.1, .int .i64 a.2], .agg #[.int .i64 b.1, .int .i64 b.2]] w fun e w' => e = .returned (.bool r) ∧ Below w.heap.size w w' := by subst h; exact within_any a b w
theorem c6 (h : withinB a b = r) : Calls Try.prog 57 #[.agg #[.int .i64 a.1, .int .i64 a.2], .agg #[.int .i64 b.1, .int .i64 b.2]] w fun e w' => e = .returned (.bool r) ∧ Below w.heap.size w w' := by subst h; exact rwithin_any a b w
end
end Go.Proofs.Ytjmoeahlbgdkbaa
