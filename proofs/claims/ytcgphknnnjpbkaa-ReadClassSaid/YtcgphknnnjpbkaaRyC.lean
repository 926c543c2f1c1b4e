/- Contract: gimletref13.repeat. No condition. -/
import Derived.Test.YtcgphknnnjpbkaaRyB
namespace Go.Proofs.Ytcgphknnnjpbkaa
open Go.ChangeShapes Go.WideShapes Go.ChangeAt Go.RowKit
open SetM
attribute [local go_sem ↓] Go.wp_at_zero Go.wp_at_succ
set_option maxRecDepth 100000
set_option linter.unusedVariables false
set_option linter.unusedSimpArgs false
def repB (n : Nat) (mi ma : Int) (q : Bool) : Bool := decide (n = 1) && decide (0 ≤ mi) && decide (mi ≤ 255) && decide (ma = -1 ∨ (mi ≤ ma ∧ ma ≤ 255)) && q
theorem headD_get (l : List Rt) (h : 0 < l.length) : l[0] = l.headD rt0 := by
  cases l with
  | nil => cases h
  | cons a r => rfl
end Go.Proofs.Ytcgphknnnjpbkaa
