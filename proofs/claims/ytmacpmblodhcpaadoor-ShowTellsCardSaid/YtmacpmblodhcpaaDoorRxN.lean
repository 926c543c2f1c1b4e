/- Contract: gimletref13.kids. Condition: trees that are not too big. -/
import Derived.Test.YtmacpmblodhcpaaDoorRxU
namespace Go.Proofs.YtmacpmblodhcpaaDoor
open Go.ChangeShapes Go.WideShapes Go.ChangeAt Go.RowKit
open SetM
attribute [local go_sem ↓] Go.wp_at_zero Go.wp_at_succ
set_option maxRecDepth 100000
set_option linter.unusedVariables false
/-- What the reference's kids makes: the trees themselves. -/
def rflK (kind : Int) (l : List Rt) : List Rt := l.flatMap (fun t => if t.k = kind then t.kids else [t])
theorem rflK_er (kind : Int) (l : List Rt) : (rflK kind l).map er = flK kind l := by
  unfold rflK flK
  rw [List.map_flatMap]
  congr 1
  funext t
  split <;> rfl
def KpPost (kind : Int) (l : List Rt) (w0 w : World) : Ending → World → Prop := fun e w' => ∃ v' L, e = .returned v' ∧ Below w.heap.size w w' ∧ KsAt w' v' L ∧ FrV w.heap.size v' ∧ (∀ x ∈ L, RxAt w0 x) ∧ L.map er = flK kind l
end Go.Proofs.YtmacpmblodhcpaaDoor
