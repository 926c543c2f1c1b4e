/- Contracts: slices.EqualFunc over trees, deep.SameRx, rxtree.Same. No condition. -/
import Derived.Test.YtmacpmblodhcpaaDoorRxS
namespace Go.Proofs.YtmacpmblodhcpaaDoor
open Go.ChangeShapes Go.WideShapes Go.ChangeAt Go.RowKit
open SetM
attribute [local go_sem ↓] Go.wp_at_zero Go.wp_at_succ
set_option maxRecDepth 100000
set_option linter.unusedVariables false
def SmPost (b : Bool) (w : World) : Ending → World → Prop := fun e w' => e = .returned (.bool b) ∧ Below w.heap.size w w'
end Go.Proofs.YtmacpmblodhcpaaDoor
