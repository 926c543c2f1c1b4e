/- The library's contract of a fresh strings.Builder's Grow, laid over this program. -/
import Derived.Test.YtjmoeahlbgdkbaaBuilder
namespace Go.Proofs.Ytjmoeahlbgdkbaa
open Go.ChangeShapes Go.WideShapes Go.ChangeAt Go.RowKit
open Go.Shelf
end Go.Proofs.Ytjmoeahlbgdkbaa
