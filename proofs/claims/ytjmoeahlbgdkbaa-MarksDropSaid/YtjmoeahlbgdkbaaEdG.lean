/- Contract of Apply: the text behind edits. Conditions: at most 20 edits of short texts, a short text. -/
import Derived.Test.YtjmoeahlbgdkbaaEdF
namespace Go.Proofs.Ytjmoeahlbgdkbaa
open Go.ChangeShapes Go.WideShapes Go.ChangeAt Go.RowKit
open SpanM EdM
attribute [local go_sem ↓] Go.wp_at_zero Go.wp_at_succ
attribute [local go_sem] later_cell later_frozen
end Go.Proofs.Ytjmoeahlbgdkbaa
