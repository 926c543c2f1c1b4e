/- Contract: gimletref13.bare. No condition. -/
import Derived.Test.YtcgphknnnjpbkaaRxH
namespace Go.Proofs.Ytcgphknnnjpbkaa
open Go.ChangeShapes Go.WideShapes Go.ChangeAt Go.RowKit
open SetM
attribute [local go_sem ↓] Go.wp_at_zero Go.wp_at_succ
set_option maxRecDepth 100000
set_option linter.unusedVariables false
def bareB (ch : ByteArray) (nt : Bool) (rl : Nat) (mi ma : Int) (lz : Bool) : Bool := decide (ch = ⟨#[]⟩) && !nt && decide (rl = 0) && decide (mi = 0) && decide (ma = 0) && !lz
end Go.Proofs.Ytcgphknnnjpbkaa
