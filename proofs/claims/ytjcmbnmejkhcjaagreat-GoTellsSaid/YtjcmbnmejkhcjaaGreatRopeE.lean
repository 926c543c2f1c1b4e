/- The awake of the rope's laws. -/
import Derived.Test.YtjcmbnmejkhcjaaGreatRopeD
import Derived.Test.YtjcmbnmejkhcjaaGreatLater
namespace Go.Proofs.YtjcmbnmejkhcjaaGreat
open Go.ChangeShapes Go.WideShapes Go.ChangeAt Go.RowKit
open Go.Shelf

set_option maxRecDepth 100000
theorem aw_x : (⟨#[97, 98]⟩ : ByteArray) ++ ⟨#[99, 100]⟩ = ⟨#[97, 98, 99, 100]⟩ := by decide
theorem aw_y : (⟨#[97, 98, 99, 100]⟩ : ByteArray).extract 1 3 = ⟨#[98, 99]⟩ := by decide
end Go.Proofs.YtjcmbnmejkhcjaaGreat
