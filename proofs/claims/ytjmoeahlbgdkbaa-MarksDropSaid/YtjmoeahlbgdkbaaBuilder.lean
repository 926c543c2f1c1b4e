/- The library's contracts of strings.Builder, laid over this program. -/
import Derived.Shelf.Strings.Builder1
import Derived.Shelf.Strings.Builder2
import Derived.Test.YtjmoeahlbgdkbaaRows
import Derived.Test.YtjmoeahlbgdkbaaOwn
namespace Go.Proofs.Ytjmoeahlbgdkbaa
open Go.ChangeShapes Go.WideShapes Go.ChangeAt Go.RowKit
open Go.Shelf

end Go.Proofs.Ytjmoeahlbgdkbaa
