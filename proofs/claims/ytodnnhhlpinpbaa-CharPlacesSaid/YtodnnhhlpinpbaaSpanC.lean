/- Contracts: the order of stretches as the sort asks for it; two slices held against one another. No condition. -/
import Derived.Test.YtodnnhhlpinpbaaSpanB
import Derived.Deep.RegionWith
import Derived.Deep.QuietTactic
import Derived.BigQuiet
import Derived.Sort.Grow
import Derived.Deep.RegionHeld3
import Derived.Deep.DrawnRows
namespace Go.Proofs.Ytodnnhhlpinpbaa
open Go.ChangeShapes Go.WideShapes Go.ChangeAt Go.RowKit
open SpanM
attribute [local go_sem ↓] Go.wp_at_zero Go.wp_at_succ
def cmpI (x y : Int) : Int := if x < y then -1 else if y < x then 1 else 0
def cmpS (a b : Sp) : Int := if cmpI a.1 b.1 = 0 then cmpI a.2 b.2 else cmpI a.1 b.1
end Go.Proofs.Ytodnnhhlpinpbaa
